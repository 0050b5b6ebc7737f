/- Windows after numbers: 'accepted'. -/
import Derived.Test.YtebeaekiaikgmaaYb
import Derived.Test.YtebeaekiaikgmaaYc
import Derived.Test.YtebeaekiaikgmaaYd
import Derived.Test.YtebeaekiaikgmaaYe
import Derived.Test.YtebeaekiaikgmaaHb
namespace Go.Proofs.Ytebeaekiaikgmaa
open Go.RowKit

theorem accF_wf (t : Int) (a : Option Addr) (c : Nat) (L : List Bool) (s : Int) (w : World) (h : BosAt w (.slice a 16 c) L) (hw : WF t L) (hc : 16 ≤ c) : Calls Try.prog 15 #[.agg #[.int .i64 t, .slice a 16 c], .int .i64 s] w (AcF w (accT t L s) (accL t L s) (accE t L s)) := by
  have hi := isw_wf a c hw hc
  obtain ⟨h1, h2, h3, -, -⟩ := hw
  unfold accT accL accE
  by_cases q1 : s < 0 ∨ 1000000 < s
  · rw [if_pos q1, if_pos q1, if_pos q1]
    rcases q1 with q1 | q1
    · exact acf_neg t a 16 c L s w h h1 (by omega) hi q1
    · exact acf_big t a 16 c L s w h h1 (by omega) hi q1
  · rw [if_neg q1, if_neg q1, if_neg q1]
    by_cases q2 : t < s
    · rw [if_pos q2, if_pos q2, if_pos q2]
      exact acf_shift t a c L s w h h1 hi (by omega) (s - t).toNat (by omega)
    · rw [if_neg q2, if_neg q2, if_neg q2]
      by_cases q3 : 16 ≤ t - s
      · rw [if_pos q3, if_pos q3]
        exact acf_far t a 16 c L s w h h1 (by omega) hi (by omega) h3 q3
      · rw [if_neg q3, if_neg q3]
        by_cases q4 : L.getD (t - s).toNat false = true
        · rw [if_pos q4, if_pos q4]
          exact acf_seen t a 16 c L s w h h1 (by omega) hi (by omega) h3 (t - s).toNat (by omega) q4
        · rw [if_neg q4, if_neg q4]
          exact acf_set t a 16 c L s w h h1 (by omega) hi (by omega) h3 (t - s).toNat (by omega) (by simpa using q4)
theorem accF_any (t : Int) (b off c : Nat) (L : List Bool) (s : Int) (w : World) (h : BosAt w (.slice (some ⟨b, off, none⟩) 16 c) L) (hw : WF t L) (hc : 16 ≤ c) :
    Calls Try.prog 15 #[.agg #[.int .i64 t, .slice (some ⟨b, off, none⟩) 16 c], .int .i64 s] w fun e w' => ∃ (b' off' c' : Nat), e = .returned (.tuple #[.agg #[.int .i64 (accT t L s), .slice (some ⟨b', off', none⟩) 16 c'], .int .i64 (accE t L s)]) ∧ 16 ≤ c' ∧ w.heap.size ≤ b' ∧ BosAt w' (.slice (some ⟨b', off', none⟩) 16 c') (accL t L s) ∧ Below w.heap.size w w' := by
  refine (accF_wf t _ c L s w h hw hc).mono fun e w' hq => ?_
  obtain ⟨aa, cc, h1, h2, h3, h4, h5⟩ := hq
  have hl := (wf_acc s hw).1
  rw [hl] at h1 h2 h3
  have h6 := h3
  obtain ⟨a, c, he, -, hx⟩ := h6
  obtain ⟨b, off, ha, -⟩ := hx (by intro e; rw [e] at hl; simp at hl)
  obtain ⟨rfl, -, rfl⟩ : aa = a ∧ 16 = (accL t L s).length ∧ cc = c := by simpa using he
  subst ha
  exact ⟨b, off, cc, h1, h2, h5 b off rfl, h3, h4⟩
/-- The windows; which numbers were accepted. -/
def stT (l : List Int) : Nat → Int × List Bool
  | 0 => (-1, q0)
  | k + 1 => (accT (stT l k).1 (stT l k).2 (l.getD k 0), accL (stT l k).1 (stT l k).2 (l.getD k 0))
def okV (l : List Int) (k : Nat) : Bool := accE (stT l k).1 (stT l k).2 (l.getD k 0) == 0
def okL (l : List Int) (n : Nat) : List Bool := (List.range n).map (okV l)
theorem okL_len (l : List Int) (n : Nat) : (okL l n).length = n := by simp [okL]
theorem okL_snoc (l : List Int) (n : Nat) : okL l (n + 1) = okL l n ++ [okV l n] := by unfold okL; rw [List.range_succ, List.map_append]; rfl
theorem okL_get (l : List Int) {n j : Nat} (h : j < n) : (okL l n).getD j false = okV l j := by simp [okL, h]
theorem st_wf (l : List Int) : ∀ k, WF (stT l k).1 (stT l k).2
  | 0 => wf_new
  | k + 1 => wf_acc _ (st_wf l k)
theorem bos_oth {w : World} {g off n c b : Nat} {l : List Bool} (h : BosAt w (.slice (some ⟨g, off, none⟩) n c) l) (hne : g ≠ b) (j : Nat) (v : Value) : BosAt (w.setCell ⟨b, j, none⟩ v) (.slice (some ⟨g, off, none⟩) n c) l := by
  obtain ⟨a, cap, hv, hm, hc⟩ := h
  refine ⟨a, cap, hv, hm, fun hl => ?_⟩
  obtain ⟨b', o', ha, hx⟩ := hc hl
  have hb : g = b' := by
    rw [ha] at hv
    have h1 : (some (⟨g, off, none⟩ : Addr)) = some ⟨b', o', none⟩ := by simp at hv; simp [hv]
    cases h1; rfl
  subst hb
  refine ⟨g, o', ha, fun i x hi => ?_⟩
  rw [World.cell?_setCell_other _ _ _ _ (by intro e; injection e with e1; exact hne (by first | exact e1 | exact e1.symm))]
  exact hx i x hi
theorem bos_grown {w w' : World} {g off n c : Nat} {l : List Bool} {row : Option Nat} (h : BosAt w (.slice (some ⟨g, off, none⟩) n c) l) (hg : w.grownBy w' row) (hne : row ≠ some g) : BosAt w' (.slice (some ⟨g, off, none⟩) n c) l := by
  obtain ⟨a, cap, hv, hm, hc⟩ := h
  refine ⟨a, cap, hv, hm, fun hl => ?_⟩
  obtain ⟨b', o', ha, hx⟩ := hc hl
  have hb : g = b' := by
    rw [ha] at hv
    have h1 : (some (⟨g, off, none⟩ : Addr)) = some ⟨b', o', none⟩ := by simp at hv; simp [hv]
    cases h1; rfl
  subst hb
  refine ⟨g, o', ha, fun i x hi => ?_⟩
  have h1 := hx i x hi
  have hlt : g < w.heap.size := World.block_lt_of_cell? _ _ h1
  exact (World.cell?_of_block (a := ⟨g, o' + i, none⟩) (hg.block g hlt (fun e => hne e.symm))).trans h1
/-- What stands behind the call: a new box with the window, and the number. -/
def AcX (W : World) (t : Int) (L : List Bool) (er : Int) (p q : Value) (wc : World) : Prop :=
  ∃ (g b off c : Nat), p = .pointer (some ⟨g, 0, none⟩) ∧ q = .int .i64 er ∧ W.heap.size ≤ g ∧ W.heap.size ≤ b ∧ b ≠ g ∧ Cs wc g #[.int .i64 t, .slice (some ⟨b, off, none⟩) 16 c] ∧ BosAt wc (.slice (some ⟨b, off, none⟩) 16 c) L ∧ 16 ≤ c ∧ Below W.heap.size W wc
theorem AcX.after {W w3 : World} {t er : Int} {L : List Bool} {b off c : Nat} (h : Below W.heap.size W w3) (hb : W.heap.size ≤ b) (hc : 16 ≤ c) (hq : BosAt w3 (.slice (some ⟨b, off, none⟩) 16 c) L) (hl : b < w3.heap.size) :
    AcX W t L er (.pointer (some ⟨w3.heap.size, 0, none⟩)) (.int .i64 er) (w3.alloc (.cells #[.int .i64 t, .slice (some ⟨b, off, none⟩) 16 c] 28)) :=
  ⟨_, b, off, c, rfl, rfl, h.size, hb, Nat.ne_of_lt hl, Cs.new w3 _ _ 28 rfl, hq.step (al _ _), hc, h.alloc h.size _⟩
theorem AcX.before {W w3 : World} {t er : Int} {L : List Bool} {b off c : Nat} (h : Below W.heap.size W w3) (hb : W.heap.size < b) (hc : 16 ≤ c) (hq : BosAt w3 (.slice (some ⟨b, off, none⟩) 16 c) L) (hC : Cs w3 W.heap.size #[.int .i64 0, .slice none 0 0]) :
    AcX W t L er (.pointer (some ⟨W.heap.size, 0, none⟩)) (.int .i64 er) ((w3.setCell ⟨W.heap.size, 0, none⟩ (.int .i64 t)).setCell ⟨W.heap.size, 1, none⟩ (.slice (some ⟨b, off, none⟩) 16 c)) :=
  ⟨_, b, off, c, rfl, rfl, Nat.le_refl _, Nat.le_of_lt hb, fun e => by omega, Cs.set (Cs.set hC 0 (by simp) (.int .i64 t) rfl) 1 (by simp) _ rfl, bos_oth (bos_oth hq (by omega) _ _) (by omega) _ _, hc, (h.setCell (p := ⟨W.heap.size, 0, none⟩) (Nat.le_refl _) _).setCell (p := ⟨W.heap.size, 1, none⟩) (Nat.le_refl _) _⟩
theorem bos_lt {w : World} {b off c : Nat} {L : List Bool} (h : BosAt w (.slice (some ⟨b, off, none⟩) 16 c) L) (hl : L.length = 16) : b < w.heap.size := World.block_lt_of_cell? _ _ (bos_at h 0 (by omega))
theorem infoB : (Try.prog.info? 4).map (fun i => (i.zero, i.size, i.bytes)) = some (some (.bool false), 1, 1) := by kernel_rfl
end Go.Proofs.Ytebeaekiaikgmaa
