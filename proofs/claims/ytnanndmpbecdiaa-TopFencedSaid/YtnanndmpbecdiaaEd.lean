import Derived.ChangeKeysEq
import Derived.Test.YtnanndmpbecdiaaYd
import Derived.Test.YtnanndmpbecdiaaYe
import Derived.Test.YtnanndmpbecdiaaDc
namespace Go.Proofs.Ytnanndmpbecdiaa
open Go.RowKit

theorem infoBo : (Try.prog.info? 4).map (fun i => (i.zero, i.size, i.bytes)) = some (some (.bool false), 1, 1) := by kernel_rfl
/-- Two arrays of truth values compared. -/
theorem eq_items (xs ys : List Bool) (hx : xs.length = 16) (hy : ys.length = 16) (w : World) : ∀ is : List Nat, (∀ i ∈ is, i < 16) →
    (Op.eqItems 9999 4 (Try.prog.cellsOf 4) (xs.map Value.bool).toArray (ys.map Value.bool).toArray is).run Try.prog w = .ok (is.all fun i => xs.getD i false == ys.getD i false) w
  | [], _ => by simp [Op.eqItems]
  | i :: is, h => by
    have hi := h i (by simp)
    have hc : Try.prog.cellsOf 4 = 1 := by kernel_rfl
    have ih := eq_items xs ys hx hy w is (fun j hj => h j (by simp [hj]))
    have px : (part 4 (xs.map Value.bool).toArray (i * 1)).run Try.prog w = .ok (.bool (xs.getD i false)) w := run_part_plain w (by kernel_rfl) (by simp [show i < xs.length by omega])
    have py : (part 4 (ys.map Value.bool).toArray (i * 1)).run Try.prog w = .ok (.bool (ys.getD i false)) w := run_part_plain w (by kernel_rfl) (by simp [show i < ys.length by omega])
    rw [hc] at ih ⊢
    simp only [Op.eqItems, Sem.run_bind, px, py, Result.andThen_ok, run_equalIn_bool w 9998 4 _ _ Try.underlying4, List.all_cons]
    cases xs.getD i false == ys.getD i false
    · simp
    · simpa using ih
theorem eq_bools (xs ys : List Bool) (hx : xs.length = 16) (hy : ys.length = 16) (w : World) :
    (Op.equalIn 10000 93 (.agg (xs.map Value.bool).toArray) (.agg (ys.map Value.bool).toArray)).run Try.prog w = .ok ((List.range 16).all fun i => xs.getD i false == ys.getD i false) w := by
  obtain ⟨i0, hi, -⟩ := info_parts infoBo
  rw [run_equalIn_array w 9999 _ _ Try.underlying93 hi]
  exact eq_items xs ys hx hy w _ (fun i hi => List.mem_range.1 hi)
set_option maxRecDepth 100000 in
set_option maxHeartbeats 8000000 in
theorem isw_sixteen {t : Int} {L : List Bool} (a : Option Addr) (n c : Nat) (hn : L.length = n) (h : n ≠ 16) : IsW t a n c L false := by
  intro W hb
  have HB := Lib.hid (al W (.cells #[.int .i64 t, .slice a n c] 28))
  have HC := Lib.hid (Cs.new W W.heap.size #[.int .i64 t, .slice a n c] 28 rfl)
  have hm : n ≤ maxLen := by obtain ⟨a', c', hv, hm, -⟩ := hb; omega
  unfold maxLen at hm
  have g1 : ((n : Int) == 16) = false := by simp; omega
  have g2 : ((n : Int) != 16) = true := by simp; omega
  have g3 : ((n : Int) = 16) = False := by simp; omega
  have x0 := HC.out.c 0 rfl
  have x1 := HC.out.c 1 rfl
  have xz := HC.out.2.2
  clear h hn hb
  go_enter Try.func39, Try.ntmps39
  go_wp2
  go_ret
  exact ⟨rfl, HB.out⟩
set_option maxRecDepth 100000 in
set_option maxHeartbeats 8000000 in
theorem isw_low {t : Int} {L : List Bool} (a : Option Addr) (c : Nat) (h : t < -1) : IsW t a 16 c L false := by
  intro W hb
  have HB := Lib.hid (al W (.cells #[.int .i64 t, .slice a 16 c] 28))
  have HC := Lib.hid (Cs.new W W.heap.size #[.int .i64 t, .slice a 16 c] 28 rfl)
  have g1 : decide (t < -1) = true := by simp; omega
  have x0 := HC.out.c 0 rfl
  have x1 := HC.out.c 1 rfl
  have xz := HC.out.2.2
  clear hb
  go_enter Try.func39, Try.ntmps39
  go_wp2
  go_ret
  exact ⟨rfl, HB.out⟩
set_option maxRecDepth 100000 in
set_option maxHeartbeats 8000000 in
theorem isw_high {t : Int} {L : List Bool} (a : Option Addr) (c : Nat) (h : 1000000 < t) : IsW t a 16 c L false := by
  intro W hb
  have HB := Lib.hid (al W (.cells #[.int .i64 t, .slice a 16 c] 28))
  have HC := Lib.hid (Cs.new W W.heap.size #[.int .i64 t, .slice a 16 c] 28 rfl)
  have g1 : decide (t < -1) = false := by simp; omega
  have g2 : decide (1000000 < t) = true := by simp; omega
  have g3 : decide (t > 1000000) = true := by simp; omega
  have x0 := HC.out.c 0 rfl
  have x1 := HC.out.c 1 rfl
  have xz := HC.out.2.2
  clear hb
  go_enter Try.func39, Try.ntmps39
  go_wp2
  go_ret
  exact ⟨rfl, HB.out⟩
set_option maxRecDepth 100000 in
set_option maxHeartbeats 8000000 in
theorem isw_m1 {L : List Bool} (a : Option Addr) (c : Nat) (hl : L.length = 16) (_ : 16 ≤ c) (h : ((List.range 16).all fun i => L.getD i false == (List.replicate 16 false).getD i false) = false) : IsW (-1) a 16 c L false := by
  intro W hb
  have HB := Lib.hid (al W (.cells #[.int .i64 (-1), .slice a 16 c] 28))
  have HC := Lib.hid (Cs.new W W.heap.size #[.int .i64 (-1), .slice a 16 c] 28 rfl)
  obtain ⟨a', c', hv, hm, hcs⟩ := hb
  obtain ⟨rfl, -, rfl⟩ : a = a' ∧ 16 = L.length ∧ c = c' := by simpa using hv
  obtain ⟨b, off, rfl, hx⟩ := hcs (by intro e; rw [e] at hl; simp at hl)
  have y0 := keep1 HB.out (show W.cell? ⟨b, off + 0, none⟩ = some (.bool (L.getD 0 false)) from hx 0 _ (bo_get (by omega)))
  have y1 := keep1 HB.out (show W.cell? ⟨b, off + 1, none⟩ = some (.bool (L.getD 1 false)) from hx 1 _ (bo_get (by omega)))
  have y2 := keep1 HB.out (show W.cell? ⟨b, off + 2, none⟩ = some (.bool (L.getD 2 false)) from hx 2 _ (bo_get (by omega)))
  have y3 := keep1 HB.out (show W.cell? ⟨b, off + 3, none⟩ = some (.bool (L.getD 3 false)) from hx 3 _ (bo_get (by omega)))
  have y4 := keep1 HB.out (show W.cell? ⟨b, off + 4, none⟩ = some (.bool (L.getD 4 false)) from hx 4 _ (bo_get (by omega)))
  have y5 := keep1 HB.out (show W.cell? ⟨b, off + 5, none⟩ = some (.bool (L.getD 5 false)) from hx 5 _ (bo_get (by omega)))
  have y6 := keep1 HB.out (show W.cell? ⟨b, off + 6, none⟩ = some (.bool (L.getD 6 false)) from hx 6 _ (bo_get (by omega)))
  have y7 := keep1 HB.out (show W.cell? ⟨b, off + 7, none⟩ = some (.bool (L.getD 7 false)) from hx 7 _ (bo_get (by omega)))
  have y8 := keep1 HB.out (show W.cell? ⟨b, off + 8, none⟩ = some (.bool (L.getD 8 false)) from hx 8 _ (bo_get (by omega)))
  have y9 := keep1 HB.out (show W.cell? ⟨b, off + 9, none⟩ = some (.bool (L.getD 9 false)) from hx 9 _ (bo_get (by omega)))
  have y10 := keep1 HB.out (show W.cell? ⟨b, off + 10, none⟩ = some (.bool (L.getD 10 false)) from hx 10 _ (bo_get (by omega)))
  have y11 := keep1 HB.out (show W.cell? ⟨b, off + 11, none⟩ = some (.bool (L.getD 11 false)) from hx 11 _ (bo_get (by omega)))
  have y12 := keep1 HB.out (show W.cell? ⟨b, off + 12, none⟩ = some (.bool (L.getD 12 false)) from hx 12 _ (bo_get (by omega)))
  have y13 := keep1 HB.out (show W.cell? ⟨b, off + 13, none⟩ = some (.bool (L.getD 13 false)) from hx 13 _ (bo_get (by omega)))
  have y14 := keep1 HB.out (show W.cell? ⟨b, off + 14, none⟩ = some (.bool (L.getD 14 false)) from hx 14 _ (bo_get (by omega)))
  have y15 := keep1 HB.out (show W.cell? ⟨b, off + 15, none⟩ = some (.bool (L.getD 15 false)) from hx 15 _ (bo_get (by omega)))
  have heq : ∀ w, (Op.equalIn 10000 93 (.agg #[.bool (L.getD 0 false), .bool (L.getD 1 false), .bool (L.getD 2 false), .bool (L.getD 3 false), .bool (L.getD 4 false), .bool (L.getD 5 false), .bool (L.getD 6 false), .bool (L.getD 7 false), .bool (L.getD 8 false), .bool (L.getD 9 false), .bool (L.getD 10 false), .bool (L.getD 11 false), .bool (L.getD 12 false), .bool (L.getD 13 false), .bool (L.getD 14 false), .bool (L.getD 15 false)]) (.agg #[.bool false, .bool false, .bool false, .bool false, .bool false, .bool false, .bool false, .bool false, .bool false, .bool false, .bool false, .bool false, .bool false, .bool false, .bool false, .bool false])).run Try.prog w = .ok false w := fun w => by
    have := eq_bools L (List.replicate 16 false) hl (by simp) w
    rw [h] at this
    have e : (L.map Value.bool).toArray = #[.bool (L.getD 0 false), .bool (L.getD 1 false), .bool (L.getD 2 false), .bool (L.getD 3 false), .bool (L.getD 4 false), .bool (L.getD 5 false), .bool (L.getD 6 false), .bool (L.getD 7 false), .bool (L.getD 8 false), .bool (L.getD 9 false), .bool (L.getD 10 false), .bool (L.getD 11 false), .bool (L.getD 12 false), .bool (L.getD 13 false), .bool (L.getD 14 false), .bool (L.getD 15 false)] := by
      apply Array.toList_inj.1
      apply List.ext_getElem
      · simp [hl]
      · intro i h1 h2
        simp at h1 h2
        have hi : i < 16 := by omega
        match i, hi with
        | 0, _ => simp [show 0 < L.length by omega]
        | 1, _ => simp [show 1 < L.length by omega]
        | 2, _ => simp [show 2 < L.length by omega]
        | 3, _ => simp [show 3 < L.length by omega]
        | 4, _ => simp [show 4 < L.length by omega]
        | 5, _ => simp [show 5 < L.length by omega]
        | 6, _ => simp [show 6 < L.length by omega]
        | 7, _ => simp [show 7 < L.length by omega]
        | 8, _ => simp [show 8 < L.length by omega]
        | 9, _ => simp [show 9 < L.length by omega]
        | 10, _ => simp [show 10 < L.length by omega]
        | 11, _ => simp [show 11 < L.length by omega]
        | 12, _ => simp [show 12 < L.length by omega]
        | 13, _ => simp [show 13 < L.length by omega]
        | 14, _ => simp [show 14 < L.length by omega]
        | 15, _ => simp [show 15 < L.length by omega]
        | i + 16, h => exact absurd h (by omega)
    rw [e] at this
    exact this
  have hat : ∀ w, (Instr.arrayAt 93 (.slice (some ⟨b, off, none⟩) 16 c)).run Try.prog w = .ok (.pointer (some ⟨b, off, none⟩)) w := fun w => run_arrayAt w 93 _ 16 _ 16 c Try.underlying93 (Nat.le_refl _)
  generalize L.getD 0 false = b0 at *
  generalize L.getD 1 false = b1 at *
  generalize L.getD 2 false = b2 at *
  generalize L.getD 3 false = b3 at *
  generalize L.getD 4 false = b4 at *
  generalize L.getD 5 false = b5 at *
  generalize L.getD 6 false = b6 at *
  generalize L.getD 7 false = b7 at *
  generalize L.getD 8 false = b8 at *
  generalize L.getD 9 false = b9 at *
  generalize L.getD 10 false = b10 at *
  generalize L.getD 11 false = b11 at *
  generalize L.getD 12 false = b12 at *
  generalize L.getD 13 false = b13 at *
  generalize L.getD 14 false = b14 at *
  generalize L.getD 15 false = b15 at *
  have x0 := HC.out.c 0 rfl
  have x1 := HC.out.c 1 rfl
  have xz := HC.out.2.2
  simp only [Nat.add_zero] at *
  clear hx hcs hm hl h hv
  go_enter Try.func39, Try.ntmps39
  go_wp2
  go_ret
  exact ⟨rfl, HB.out⟩
theorem wf_no {t : Int} {L : List Bool} {n : Nat} (a : Option Addr) (c : Nat) (hn : L.length = n) (hc : n ≤ c) (h : ¬ WF t L) : IsW t a n c L false := by
  by_cases h16 : n = 16
  · subst h16
    by_cases h1 : t < -1
    · exact isw_low a c h1
    · by_cases h2 : 1000000 < t
      · exact isw_high a c h2
      · by_cases h3 : t = -1
        · subst h3
          refine isw_m1 a c hn hc ?_
          rw [Bool.eq_false_iff]
          intro hall
          rw [List.all_eq_true] at hall
          refine h ⟨hn, by omega, by omega, fun e => by omega, fun j _ => ?_⟩
          by_cases hj : j < 16
          · have := hall j (List.mem_range.2 hj)
            rw [show (List.replicate 16 false).getD j false = false by rw [List.getD_eq_getElem?_getD, List.getElem?_replicate]; split <;> rfl] at this
            exact eq_of_beq this
          · exact getD_none (by omega)
        · obtain ⟨m, rfl⟩ := Int.eq_ofNat_of_zero_le (show 0 ≤ t by omega)
          obtain ⟨k, rfl⟩ : ∃ k, c = k + 16 := ⟨c - 16, by omega⟩
          intro W hb
          have hw : wkB m L = false := by
            rw [Bool.eq_false_iff]
            intro hk
            unfold wkB at hk
            rw [Bool.and_eq_true, Bool.not_eq_true', List.any_eq_false] at hk
            refine h ⟨hn, by omega, by omega, fun _ => hk.1, fun j hj => ?_⟩
            by_cases hj2 : j < 16
            · have hmem : L.getD j false ∈ L.drop (min (m + 1) 16) := by
                rw [show L.getD j false = L[j]'(by omega) by simp [show j < L.length by omega]]
                have : L[j]'(by omega) = (L.drop (min (m + 1) 16))[j - min (m + 1) 16]'(by rw [List.length_drop]; omega) := by
                  rw [List.getElem_drop]
                  congr 1
                  omega
                rw [this]
                exact List.getElem_mem _
              have := hk.2 _ hmem
              simpa using this
            · exact getD_none (by omega)
          have h := isw_old m a k L W hb hn (by omega)
          rw [hw] at h
          exact h
  · exact isw_sixteen a n c hn h16
open Go.RowKit

theorem accF_wf (t : Int) (a : Option Addr) (c : Nat) (L : List Bool) (s : Int) (w : World) (h : BosAt w (.slice a 16 c) L) (hw : WF t L) (hc : 16 ≤ c) : Calls Try.prog 34 #[.agg #[.int .i64 t, .slice a 16 c], .int .i64 s] w (AcF w (accT t L s) (accL t L s) (accE t L s)) := by
  have hi := isw_wf a c hw hc
  obtain ⟨h1, h2, h3, -, -⟩ := hw
  unfold accT accL accE
  by_cases q1 : s < 0 ∨ 1000000 < s
  · rw [if_pos q1, if_pos q1, if_pos q1]
    rcases q1 with q1 | q1
    · exact acf_neg t a 16 c L s w h h1 (by omega) hi q1
    · exact acf_big t a 16 c L s w h h1 (by omega) hi q1
  · rw [if_neg q1, if_neg q1, if_neg q1]
    by_cases q2 : t < s
    · rw [if_pos q2, if_pos q2, if_pos q2]
      exact acf_shift t a c L s w h h1 hi (by omega) (s - t).toNat (by omega)
    · rw [if_neg q2, if_neg q2, if_neg q2]
      by_cases q3 : 16 ≤ t - s
      · rw [if_pos q3, if_pos q3]
        exact acf_far t a 16 c L s w h h1 (by omega) hi (by omega) h3 q3
      · rw [if_neg q3, if_neg q3]
        by_cases q4 : L.getD (t - s).toNat false = true
        · rw [if_pos q4, if_pos q4]
          exact acf_seen t a 16 c L s w h h1 (by omega) hi (by omega) h3 (t - s).toNat (by omega) q4
        · rw [if_neg q4, if_neg q4]
          exact acf_set t a 16 c L s w h h1 (by omega) hi (by omega) h3 (t - s).toNat (by omega) (by simpa using q4)
open Go.RowKit

theorem ints_set {w : World} {base g n c x : Nat} {y : Int} {l : List Int} (h : w.ownsRow base 3 1 (.slice (some ⟨g, 0, none⟩) n c) l.length (l.map (Value.int .i64))) (hx : x < l.length) : IntsAt (w.setCell ⟨g, x, none⟩ (.int .i64 y)) (.slice (some ⟨g, 0, none⟩) n c) (l.set x y) := by
  obtain ⟨a, cap, hv, hm, hc⟩ := ints_of_row h
  obtain ⟨b, off, ha, hcs⟩ := hc (by intro e; rw [e] at hx; simp at hx)
  obtain ⟨hg, hn, hcc⟩ : some (⟨g, 0, none⟩ : Addr) = a ∧ n = l.length ∧ c = cap := by simpa using hv
  obtain ⟨rfl, rfl⟩ : g = b ∧ 0 = off := by rw [ha] at hg; simpa using hg
  subst hn hcc
  refine ⟨a, c, by rw [← hg, List.length_set], by rw [List.length_set]; exact hm, fun _ => ⟨g, 0, hg.symm, fun i z hi => ?_⟩⟩
  rw [Nat.zero_add]
  by_cases e : x = i
  · subst e
    rw [List.getElem?_set_self hx] at hi
    have h1 := hcs x _ (getD_of hx)
    rw [Nat.zero_add] at h1
    rw [World.cell?_setCell_same _ _ _ h1, Option.some.inj hi]
  · rw [List.getElem?_set_ne e] at hi
    have h1 := hcs i z hi
    rw [Nat.zero_add] at h1
    rw [World.cell?_setCell_other _ _ _ _ (by intro h2; injection h2 with _ h3; exact e h3), h1]
theorem ints_other {w : World} {g n c b : Nat} {l : List Int} (h : IntsAt w (.slice (some ⟨g, 0, none⟩) n c) l) (hne : g ≠ b) (j : Nat) (v : Value) : IntsAt (w.setCell ⟨b, j, none⟩ v) (.slice (some ⟨g, 0, none⟩) n c) l := by
  obtain ⟨a, cap, hv, hm, hc⟩ := h
  refine ⟨a, cap, hv, hm, fun hl => ?_⟩
  obtain ⟨b1, off, ha, hx⟩ := hc hl
  have hg : some (⟨g, 0, none⟩ : Addr) = a := by simp at hv; exact hv.1
  obtain rfl : b1 = g := by rw [ha] at hg; simp at hg; exact hg.1.symm
  exact ⟨b1, off, ha, fun i x h => (World.cell?_of_block (a := ⟨b1, off + i, none⟩) (Below.heap_setCell w ⟨b, j, none⟩ v b1 hne)).trans (hx i x h)⟩
theorem bos_oth {w : World} {aa : Option Addr} {n c b : Nat} {l : List Bool} (h : BosAt w (.slice aa n c) l) (hne : ∀ g o, aa = some ⟨g, o, none⟩ → g ≠ b) (j : Nat) (v : Value) : BosAt (w.setCell ⟨b, j, none⟩ v) (.slice aa n c) l := by
  obtain ⟨a, cap, hv, hm, hc⟩ := h
  refine ⟨a, cap, hv, hm, fun hl => ?_⟩
  obtain ⟨b1, off, ha, hx⟩ := hc hl
  have hg : aa = a := by simp at hv; exact hv.1
  have hn := hne b1 off (hg.trans ha)
  exact ⟨b1, off, ha, fun i x h => (World.cell?_of_block (a := ⟨b1, off + i, none⟩) (Below.heap_setCell w ⟨b, j, none⟩ v b1 hn)).trans (hx i x h)⟩
/-- What 'Accept' gives, in a block of its own. -/
def WnG (wq : World) (T : Int) (A : List Bool) (er : Int) (p q : Value) (wc : World) : Prop :=
  ∃ (k cc : Nat) (aa : Option Addr), p = .pointer (some ⟨k, 0, none⟩) ∧ q = .int .i64 er ∧ wq.heap.size ≤ k ∧ (∀ g o, aa = some ⟨g, o, none⟩ → wq.heap.size ≤ g) ∧ Cs wc k #[.int .i64 T, .slice aa A.length cc] ∧ BosAt wc (.slice aa A.length cc) A ∧ A.length ≤ cc ∧ Below wq.heap.size wq wc
theorem WnG.after {wq w3 : World} {T er : Int} {A : List Bool} {aa : Option Addr} {cc : Nat} (h : Below wq.heap.size wq w3) (hg : BosAt w3 (.slice aa A.length cc) A) (hc : A.length ≤ cc) (hl : ∀ g o, aa = some ⟨g, o, none⟩ → wq.heap.size ≤ g) :
    WnG wq T A er (.pointer (some ⟨w3.heap.size, 0, none⟩)) (.int .i64 er) (w3.alloc (.cells #[.int .i64 T, .slice aa A.length cc] 28)) :=
  ⟨_, cc, aa, rfl, rfl, h.size, hl, Cs.new w3 _ _ 28 rfl, hg.step (al _ _), hc, h.alloc h.size _⟩
theorem WnG.before {wq w3 : World} {T er : Int} {A : List Bool} {aa : Option Addr} {cc : Nat} (h : Below wq.heap.size wq w3) (hg : BosAt w3 (.slice aa A.length cc) A) (hcl : A.length ≤ cc) (hl : ∀ g o, aa = some ⟨g, o, none⟩ → wq.heap.size < g) (hc : Cs w3 wq.heap.size #[.int .i64 0, .slice none 0 0]) :
    WnG wq T A er (.pointer (some ⟨wq.heap.size, 0, none⟩)) (.int .i64 er) ((w3.setCell ⟨wq.heap.size, 0, none⟩ (.int .i64 T)).setCell ⟨wq.heap.size, 1, none⟩ (.slice aa A.length cc)) :=
  ⟨_, cc, aa, rfl, rfl, Nat.le_refl _, fun g o e => Nat.le_of_lt (hl g o e), Cs.set (Cs.set hc 0 (by simp) (.int .i64 T) rfl) 1 (by simp) (.slice aa A.length cc) rfl, bos_oth (bos_oth hg (fun g o e => by have := hl g o e; omega) 0 _) (fun g o e => by have := hl g o e; omega) 1 _, hcl, (h.setCell (p := ⟨wq.heap.size, 0, none⟩) (Nat.le_refl _) _).setCell (p := ⟨wq.heap.size, 1, none⟩) (Nat.le_refl _) _⟩
open Go.RowKit

set_option maxRecDepth 100000 in
set_option maxHeartbeats 8000000 in
theorem recv_do (t f dn fe y seq T er : Int) (x : Nat) (s : Value) (L A : List Bool) (va : Option Addr) (vc : Nat) (l : List Int) (n B : Nat) (w : World) (hc : Cs w n #[.int .i64 t, s, .int .i64 f, .slice va l.length vc, .int .i64 dn]) (hs : BosAt w s L)
    (hv : w.ownsRow B 3 1 (.slice va l.length vc) l.length (l.map (Value.int .i64))) (ho : orB seq fe x y = true) (hk : rvB f l dn = true) (hx : x < l.length) (hvn : ∀ g, va = some ⟨g, 0, none⟩ → g ≠ n) (hnw : n < w.heap.size)
    (hacc : ∀ W, BosAt W s L → Calls Try.prog 34 #[.agg #[.int .i64 t, s], .int .i64 seq] W (AcF W T A er)) (her : er = 0) (hf : f ≤ fe) :
    Calls Try.prog 22 #[.pointer (some ⟨n, 0, none⟩), .agg #[.int .i64 seq, .int .i64 fe, .int .i64 x, .int .i64 y]] w fun e w' => e = .returned (.tuple #[.bool true, .int .i64 0]) ∧ ∃ (cc : Nat) (aa : Option Addr), (∀ g o, aa = some ⟨g, o, none⟩ → w.heap.size ≤ g) ∧ A.length ≤ cc ∧ Cs w' n #[.int .i64 T, .slice aa A.length cc, .int .i64 fe, .slice va l.length vc, .int .i64 (dn + 1)] ∧ BosAt w' (.slice aa A.length cc) A ∧ IntsAt w' (.slice va l.length vc) (l.set x y) ∧ Below (min B n) w w' := by
  have HVL := Lib.hid (show ∀ g, va = some ⟨g, 0, none⟩ → B ≤ g ∧ g < w.heap.size from fun g h => row_lt hv h)
  have HN0 := Lib.hid (hc.alloc (.cells #[.int .i64 seq, .int .i64 fe, .int .i64 x, .int .i64 y] 42))
  have HO0 := Lib.hid (Cs.new w w.heap.size #[.int .i64 seq, .int .i64 fe, .int .i64 x, .int .i64 y] 42 rfl)
  have HB0 := Lib.hid (al w (.cells #[.int .i64 seq, .int .i64 fe, .int .i64 x, .int .i64 y] 42))
  have HS0 := Lib.hid (hs.step HB0.out)
  have HV0 := Lib.hid (row_step hv HB0.out)
  have HOK := Lib.hid ho
  have HKK := Lib.hid hk
  have HX := Lib.hid hx
  have HVN := Lib.hid hvn
  have HNW := Lib.hid hnw
  have HACC := Lib.hid hacc
  clear hvn hnw hacc
  clear hc hs hv ho hk hx
  subst her
  have HF := Lib.hid hf
  clear hf
  go_enter Try.func22, Try.ntmps22
  go_upto_region 1 with fail
  generalize w.alloc (.cells #[.int .i64 seq, .int .i64 fe, .int .i64 x, .int .i64 y] 42) = wq at *
  go_cut [26] from 8 to 26 (fun p wc => p = .bool false ∧ Below wq.heap.size wq wc)
  case first =>
    have hxl : (x : Int) < (l.length : Int) := by have := HX.out; omega
    have hxd : decide ((l.length : Int) ≤ (x : Int)) = false := by simp; omega
    have hxd2 : decide (l.length ≤ x) = false := by have := HX.out; simp; omega
    have HIV := Lib.hid (ints_of_row HV0.out)
    have HNn := Lib.hid (show ∀ w', Below wq.heap.size wq w' → Cs w' n #[.int .i64 t, s, .int .i64 f, .slice va l.length vc, .int .i64 dn] from fun w' h => HN0.out.step h)
    have HOo := Lib.hid (show ∀ w', Below wq.heap.size wq w' → Cs w' w.heap.size #[.int .i64 seq, .int .i64 fe, .int .i64 x, .int .i64 y] from fun w' h => HO0.out.step h)
    have o0 : wq.cell? ⟨w.heap.size, 0, none⟩ = some (.int .i64 seq) := HO0.out.c 0 rfl
    have o1 : wq.cell? ⟨w.heap.size, 1, none⟩ = some (.int .i64 fe) := HO0.out.c 1 rfl
    have o2 : wq.cell? ⟨w.heap.size, 2, none⟩ = some (.int .i64 x) := HO0.out.c 2 rfl
    have o3 : wq.cell? ⟨w.heap.size, 3, none⟩ = some (.int .i64 y) := HO0.out.c 3 rfl
    have n3 : wq.cell? ⟨n, 3, none⟩ = some (.slice va l.length vc) := HN0.out.c 3 rfl
    go_region_law (first | (go_simp; go_at_call 32; refine (isOrder_any _ _ _ _ _).mono ?_; rintro e w2 ⟨rfl, b2⟩; rw [show (inr seq 0 1000000 && (inr fe 0 1000000000 && (inr (x : Int) 0 1199 && inr y 0 15))) = true from HOK.out]; have B2 := Lib.hid (show Below wq.heap.size wq w2 from (below_drew _ _).trans b2); have p2 : w2.cell? ⟨w.heap.size, 2, none⟩ = some (.int .i64 x) := (HOo.out _ B2.out).c 2 rfl; have q3 : w2.cell? ⟨n, 3, none⟩ = some (.slice va l.length vc) := (HNn.out _ B2.out).c 3 rfl; clear b2) | (go_simp; go_at_call 33; refine (isValid_any t f dn s (.slice va l.length vc) l n _ (HNn.out _ B2.out) (HIV.out.step B2.out)).mono ?_; rintro e w3 ⟨rfl, b3⟩; rw [show (inr f 0 1000000000 && (vaB l && inr dn 0 1000001)) = true from HKK.out]; have B3 := Lib.hid (keep2 b3 B2.out); have p3 : w3.cell? ⟨w.heap.size, 2, none⟩ = some (.int .i64 x) := (HOo.out _ B3.out).c 2 rfl; have q4 : w3.cell? ⟨n, 3, none⟩ = some (.slice va l.length vc) := (HNn.out _ B3.out).c 3 rfl; clear b3))
    all_goals go_wp2
    all_goals go_meet
    all_goals exact ⟨rfl, B3.out⟩
  case rest =>
    obtain ⟨rfl, hb⟩ := hcut
    have HN1 := Lib.hid (HN0.out.step hb)
    have HO1 := Lib.hid (HO0.out.step hb)
    have HB1 := Lib.hid (keep2 hb HB0.out)
    have HS1 := Lib.hid (HS0.out.step hb)
    have HV1 := Lib.hid (row_step HV0.out hb)
    clear hb HN0 HO0 HB0 HS0 HV0
    go_upto_region 3 with fail
    go_cut [6, 7] from 27 to 37 (fun p q wc' => WnG wc T A 0 p q wc')
    case first =>
      have o0 : wc.cell? ⟨w.heap.size, 0, none⟩ = some (.int .i64 seq) := HO1.out.c 0 rfl
      have n0 : wc.cell? ⟨n, 0, none⟩ = some (.int .i64 t) := HN1.out.c 0 rfl
      have n1 : wc.cell? ⟨n, 1, none⟩ = some s := HN1.out.c 1 rfl
      have oo0 : (wc.alloc (.cells #[.int .i64 0, .slice none 0 0] 28)).cell? ⟨w.heap.size, 0, none⟩ = some (.int .i64 seq) := (HO1.out.alloc _).c 0 rfl
      have nn0 : (wc.alloc (.cells #[.int .i64 0, .slice none 0 0] 28)).cell? ⟨n, 0, none⟩ = some (.int .i64 t) := (HN1.out.alloc _).c 0 rfl
      have nn1 : (wc.alloc (.cells #[.int .i64 0, .slice none 0 0] 28)).cell? ⟨n, 1, none⟩ = some s := (HN1.out.alloc _).c 1 rfl
      go_region_law (go_simp; go_at_call 34; refine (HACC.out _ (HS1.out.step (by first | exact below_drew _ _ | exact (al _ _).trans (below_drew _ _)))).mono ?_; rintro e w3 ⟨aa, cc, rfl, hcl, hg, b3, hge⟩; have HG3 := Lib.hid hg; have HCL := Lib.hid hcl; have HW3 := Lib.hid (show Below wc.heap.size wc w3 from by first | exact (below_drew _ _).trans b3 | exact keep2 b3 ((al wc _).trans (below_drew _ _))); (first | (have HGE := Lib.hid (show ∀ g o, aa = some ⟨g, o, none⟩ → wc.heap.size < g from fun g o e => Nat.lt_of_lt_of_le (by simp) (show (wc.alloc (.cells #[.int .i64 0, .slice none 0 0] 28)).drew.heap.size ≤ g from hge g o e)); have HQ3 := Lib.hid (show Cs w3 wc.heap.size #[.int .i64 0, .slice none 0 0] from ((Cs.new wc wc.heap.size #[.int .i64 0, .slice none 0 0] 28 rfl).step (below_drew _ _)).step b3); have q0 : w3.cell? ⟨wc.heap.size, 0, none⟩ = some (.int .i64 0) := HQ3.out.c 0 rfl; have q1 : w3.cell? ⟨wc.heap.size, 1, none⟩ = some (.slice none 0 0) := HQ3.out.c 1 rfl; have g0 := HQ3.out.f 0 (by simp); have g1 := HQ3.out.f 1 (by simp)) | (have HGA := Lib.hid (show ∀ g o, aa = some ⟨g, o, none⟩ → wc.heap.size ≤ g from hge))); clear hg hge b3 hcl)
      all_goals go_wp2
      all_goals go_meet
      all_goals first | with_reducible exact WnG.after HW3.out HG3.out HCL.out HGA.out | with_reducible exact WnG.before HW3.out HG3.out HCL.out HGE.out HQ3.out
    case rest =>
      obtain ⟨k, cc, aa, rfl, rfl, hk, hgl, hcs, hg, hcl, hb⟩ := hcut
      have hgn : ∀ g o, aa = some ⟨g, o, none⟩ → g ≠ n := fun g o e => by have := HNW.out; have := HB1.out.size; have := hgl g o e; omega
      have HGL := Lib.hid hgl
      have HGS := Lib.hid HB1.out.size
      clear hgl
      have HN2 := Lib.hid (HN1.out.step hb)
      have HO2 := Lib.hid (HO1.out.step hb)
      have HB2 := Lib.hid (keep2 hb HB1.out)
      have HV2 := Lib.hid (row_step HV1.out hb)
      have HK2 := Lib.hid hcs
      have HG2 := Lib.hid hg
      have HCL := Lib.hid hcl
      clear hb hk hcs hg hcl HN1 HO1 HB1 HS1 HV1
      have HDN := Lib.hid (show 0 ≤ dn ∧ dn ≤ 1000001 from by
        have h := HKK.out
        unfold rvB at h
        rw [Bool.and_eq_true, Bool.and_eq_true, inr_iff, inr_iff] at h
        exact h.2.2)
      have hw : wrap64 (dn + 1) = dn + 1 := IntWalk.wrap64_in _ (by have := HDN.out; omega)
      have hfd : decide (fe < f) = false := by have := HF.out; simp; omega
      rcases HV2.out.2 with ⟨e, e2⟩ | ⟨gv, cp, cur, e, hg1, hg2, hg3⟩
      · exfalso
        have := HX.out
        omega
      obtain ⟨rfl, rfl⟩ : va = some ⟨gv, 0, none⟩ ∧ vc = cp := by simpa using e
      clear e hg1 hg2 hg3
      have hne : ¬ (gv = n) := HVN.out gv rfl
      have hggv : ∀ g o, aa = some ⟨g, o, none⟩ → g ≠ gv := fun g o e => by have := (HVL.out gv rfl).2; have := HGL.out g o e; have := HGS.out; omega
      have hen : ¬ (n = gv) := fun e => hne e.symm
      have r0 : wc.cell? ⟨w.heap.size, 0, none⟩ = some (.int .i64 seq) := HO2.out.c 0 rfl
      have r1 : wc.cell? ⟨w.heap.size, 1, none⟩ = some (.int .i64 fe) := HO2.out.c 1 rfl
      have r2 : wc.cell? ⟨w.heap.size, 2, none⟩ = some (.int .i64 x) := HO2.out.c 2 rfl
      have r3 : wc.cell? ⟨w.heap.size, 3, none⟩ = some (.int .i64 y) := HO2.out.c 3 rfl
      have n0 : wc.cell? ⟨n, 0, none⟩ = some (.int .i64 t) := HN2.out.c 0 rfl
      have n1 : wc.cell? ⟨n, 1, none⟩ = some s := HN2.out.c 1 rfl
      have n2 : wc.cell? ⟨n, 2, none⟩ = some (.int .i64 f) := HN2.out.c 2 rfl
      have n3 : wc.cell? ⟨n, 3, none⟩ = some (.slice (some ⟨gv, 0, none⟩) l.length vc) := HN2.out.c 3 rfl
      have n4 : wc.cell? ⟨n, 4, none⟩ = some (.int .i64 dn) := HN2.out.c 4 rfl
      have m0 := HN2.out.f 0 (by simp)
      have m1 := HN2.out.f 1 (by simp)
      have m2 := HN2.out.f 2 (by simp)
      have m4 := HN2.out.f 4 (by simp)
      have k0 : wc.cell? ⟨k, 0, none⟩ = some (.int .i64 T) := HK2.out.c 0 rfl
      have k1 : wc.cell? ⟨k, 1, none⟩ = some (.slice aa A.length cc) := HK2.out.c 1 rfl
      have v0 : wc.cell? ⟨gv, x, none⟩ = some (.int .i64 (l.getD x 0)) := by
        have h := HV2.out.cells (g := gv) rfl x (.int .i64 (l.getD x 0)) (by rw [List.getElem?_map, getD_of HX.out]; rfl)
        rwa [Go.WideShapes.add_plain, Nat.zero_add] at h
      have hon : ¬ (w.heap.size = n) := by have := HNW.out; omega
      have hno : ¬ (n = w.heap.size) := by have := HNW.out; omega
      go_wp2_with fail
      go_quiet (fail)
      go_wp2_with fail
      go_quiet (fail)
      go_wp2_with fail
      generalize hwz : World.drewN (World.drewN wc _) _ = wz
      have HA := Lib.hid (show Below wc.heap.size wc wz from hwz ▸ (below_drewN' _ _ _).trans (below_drewN' _ _ _))
      clear hwz r0 r1 r2 r3 n0 n1 n2 n3 n4 m0 m1 m2 m4 k0 k1 v0
      have HN3 := Lib.hid (HN2.out.step HA.out)
      have HO3 := Lib.hid (HO2.out.step HA.out)
      have HB3 := Lib.hid (keep2 HA.out HB2.out)
      have HV3 := Lib.hid (row_step HV2.out HA.out)
      have HK3 := Lib.hid (HK2.out.step HA.out)
      have HG3 := Lib.hid (HG2.out.step HA.out)
      clear HA HN2 HO2 HB2 HV2 HK2 HG2
      have r1 : wz.cell? ⟨w.heap.size, 1, none⟩ = some (.int .i64 fe) := HO3.out.c 1 rfl
      have n0 : wz.cell? ⟨n, 0, none⟩ = some (.int .i64 t) := HN3.out.c 0 rfl
      have n1 : wz.cell? ⟨n, 1, none⟩ = some s := HN3.out.c 1 rfl
      have n2 : wz.cell? ⟨n, 2, none⟩ = some (.int .i64 f) := HN3.out.c 2 rfl
      have m0 := HN3.out.f 0 (by simp)
      have m1 := HN3.out.f 1 (by simp)
      have m2 := HN3.out.f 2 (by simp)
      have k0 : wz.cell? ⟨k, 0, none⟩ = some (.int .i64 T) := HK3.out.c 0 rfl
      have k1 : wz.cell? ⟨k, 1, none⟩ = some (.slice aa A.length cc) := HK3.out.c 1 rfl
      go_region
      have HN4 := Lib.hid ((Cs.set (Cs.set (Cs.set HN3.out 0 (by simp) (.int .i64 T) rfl) 1 (by simp) (.slice aa A.length cc) rfl) 2 (by simp) (.int .i64 fe) (vs' := #[.int .i64 T, .slice aa A.length cc, .int .i64 fe, .slice (some ⟨gv, 0, none⟩) l.length vc, .int .i64 dn]) rfl).step (below_drew _ _))
      have HO4 := Lib.hid ((Cs.other (Cs.other (Cs.other HO3.out hon 0 (.int .i64 T)) hon 1 (.slice aa A.length cc)) hon 2 (.int .i64 fe)).step (below_drew _ _))
      have hvo : (Value.slice (some ⟨gv, 0, none⟩) l.length vc).ownBlock ≠ some n := by simp [Value.ownBlock]; exact hne
      have HV4 := Lib.hid (row_step (ownsRow_setCell_other (ownsRow_setCell_other (ownsRow_setCell_other HV3.out (a := ⟨n, 0, none⟩) hvo (.int .i64 T)) (a := ⟨n, 1, none⟩) hvo (.slice aa A.length cc)) (a := ⟨n, 2, none⟩) hvo (.int .i64 fe)) (below_drew _ _))
      have HG4 := Lib.hid ((bos_oth (bos_oth (bos_oth HG3.out hgn 0 (.int .i64 T)) hgn 1 (.slice aa A.length cc)) hgn 2 (.int .i64 fe)).step (below_drew _ _))
      clear HN3 HO3 HV3 HK3 HG3 r1 n0 n1 n2 m0 m1 m2 k0 k1
      have HBn := Lib.hid (show min B n ≤ n from Nat.min_le_right _ _)
      have HB4 := Lib.hid ((((Below.setCell (Below.mono HB3.out (Nat.le_trans HBn.out (Nat.le_of_lt HNW.out))) (p := ⟨n, 0, none⟩) HBn.out (.int .i64 T)).setCell (p := ⟨n, 1, none⟩) HBn.out (.slice aa A.length cc)).setCell (p := ⟨n, 2, none⟩) HBn.out (.int .i64 fe)).trans (below_drew _ _))
      clear HB3
      generalize hwy : World.drew _ = wy at *
      clear hwy
      have r2 : wy.cell? ⟨w.heap.size, 2, none⟩ = some (.int .i64 x) := HO4.out.c 2 rfl
      have r3 : wy.cell? ⟨w.heap.size, 3, none⟩ = some (.int .i64 y) := HO4.out.c 3 rfl
      have n3 : wy.cell? ⟨n, 3, none⟩ = some (.slice (some ⟨gv, 0, none⟩) l.length vc) := HN4.out.c 3 rfl
      have v0 : wy.cell? ⟨gv, x, none⟩ = some (.int .i64 (l.getD x 0)) := by
        have h := HV4.out.cells (g := gv) rfl x (.int .i64 (l.getD x 0)) (by rw [List.getElem?_map, getD_of HX.out]; rfl)
        rwa [Go.WideShapes.add_plain, Nat.zero_add] at h
      have v1 : wy.frozen? ⟨gv, x, none⟩ = false := by
        rcases HV4.out.2 with ⟨e, -⟩ | ⟨gw, cp, cur, e, -, h2, h3⟩
        · cases e
        · obtain ⟨rfl, -⟩ : gv = gw ∧ vc = cp := by simpa using e
          exact (Cs.of_heap h2).2.1 x (by have := h3.1; have := h3.2.2.1; have := HX.out; omega)
      have hxl : x < l.length := HX.out
      have hxi : (x : Int).toNat = x := Int.toNat_natCast _
      go_wp2_with fail
      go_region
      have HBg := Lib.hid (show min B n ≤ gv from Nat.le_trans (Nat.min_le_left _ _) (HVL.out gv rfl).1)
      have HN5 := Lib.hid ((Cs.other HN4.out hen x (.int .i64 y)).step (below_drew _ _))
      have HV5 := Lib.hid ((ints_set (y := y) HV4.out HX.out).step (below_drew _ _))
      have HG5 := Lib.hid ((bos_oth HG4.out hggv x (.int .i64 y)).step (below_drew _ _))
      have HB5 := Lib.hid ((HB4.out.setCell (p := ⟨gv, x, none⟩) HBg.out (.int .i64 y)).trans (below_drew _ _))
      clear HN4 HV4 HG4 HB4 HO4 r2 r3 n3 v0 v1
      generalize hwx : World.drew _ = wx at *
      clear hwx
      have n4 : wx.cell? ⟨n, 4, none⟩ = some (.int .i64 dn) := HN5.out.c 4 rfl
      have m4 := HN5.out.f 4 (by simp)
      go_wp2_with fail
      exact bodyPost_ret (v := .tuple #[.bool true, .int .i64 0]) (by simp [results, Try.results22, go_sem]) rfl ⟨rfl, cc, aa, (fun g o e => by have := HGL.out g o e; have := HGS.out; omega), HCL.out, Cs.set HN5.out 4 (by simp) (.int .i64 (dn + 1)) rfl, bos_oth HG5.out hgn 4 _, ints_other HV5.out hne 4 _, HB5.out.setCell (p := ⟨n, 4, none⟩) HBn.out _⟩
open Go.RowKit

set_option maxRecDepth 100000 in
set_option maxHeartbeats 8000000 in
theorem recv_known (t f dn fe y seq T er : Int) (x : Nat) (s : Value) (L A : List Bool) (va : Option Addr) (vc : Nat) (l : List Int) (n B : Nat) (w : World) (hc : Cs w n #[.int .i64 t, s, .int .i64 f, .slice va l.length vc, .int .i64 dn]) (hs : BosAt w s L)
    (hv : w.ownsRow B 3 1 (.slice va l.length vc) l.length (l.map (Value.int .i64))) (ho : orB seq fe x y = true) (hk : rvB f l dn = true) (hx : x < l.length) (hvn : ∀ g, va = some ⟨g, 0, none⟩ → g ≠ n) (hnw : n < w.heap.size)
    (hacc : ∀ W, BosAt W s L → Calls Try.prog 34 #[.agg #[.int .i64 t, s], .int .i64 seq] W (AcF W T A er)) (her : er = 16) (ht : -1 ≤ t ∧ t ≤ 1000000) (hst : t - 16 < seq) :
    Calls Try.prog 22 #[.pointer (some ⟨n, 0, none⟩), .agg #[.int .i64 seq, .int .i64 fe, .int .i64 x, .int .i64 y]] w fun e w' => e = .returned (.tuple #[.bool true, .int .i64 0]) ∧ Below w.heap.size w w' := by
  have HVL := Lib.hid (show ∀ g, va = some ⟨g, 0, none⟩ → B ≤ g ∧ g < w.heap.size from fun g h => row_lt hv h)
  have HN0 := Lib.hid (hc.alloc (.cells #[.int .i64 seq, .int .i64 fe, .int .i64 x, .int .i64 y] 42))
  have HO0 := Lib.hid (Cs.new w w.heap.size #[.int .i64 seq, .int .i64 fe, .int .i64 x, .int .i64 y] 42 rfl)
  have HB0 := Lib.hid (al w (.cells #[.int .i64 seq, .int .i64 fe, .int .i64 x, .int .i64 y] 42))
  have HS0 := Lib.hid (hs.step HB0.out)
  have HV0 := Lib.hid (row_step hv HB0.out)
  have HOK := Lib.hid ho
  have HKK := Lib.hid hk
  have HX := Lib.hid hx
  have HVN := Lib.hid hvn
  have HNW := Lib.hid hnw
  have HACC := Lib.hid hacc
  clear hvn hnw hacc
  clear hc hs hv ho hk hx
  subst her
  have w1 : wrap64 (t - 16) = t - 16 := IntWalk.wrap64_in _ (by omega)
  have d1 : decide (seq > t - 16) = true := by simp; omega
  have d2 : decide (t - 16 < seq) = true := by simp; omega
  clear ht
  go_enter Try.func22, Try.ntmps22
  go_upto_region 1 with fail
  generalize w.alloc (.cells #[.int .i64 seq, .int .i64 fe, .int .i64 x, .int .i64 y] 42) = wq at *
  go_cut [26] from 8 to 26 (fun p wc => p = .bool false ∧ Below wq.heap.size wq wc)
  case first =>
    have hxl : (x : Int) < (l.length : Int) := by have := HX.out; omega
    have hxd : decide ((l.length : Int) ≤ (x : Int)) = false := by simp; omega
    have hxd2 : decide (l.length ≤ x) = false := by have := HX.out; simp; omega
    have HIV := Lib.hid (ints_of_row HV0.out)
    have HNn := Lib.hid (show ∀ w', Below wq.heap.size wq w' → Cs w' n #[.int .i64 t, s, .int .i64 f, .slice va l.length vc, .int .i64 dn] from fun w' h => HN0.out.step h)
    have HOo := Lib.hid (show ∀ w', Below wq.heap.size wq w' → Cs w' w.heap.size #[.int .i64 seq, .int .i64 fe, .int .i64 x, .int .i64 y] from fun w' h => HO0.out.step h)
    have o0 : wq.cell? ⟨w.heap.size, 0, none⟩ = some (.int .i64 seq) := HO0.out.c 0 rfl
    have o1 : wq.cell? ⟨w.heap.size, 1, none⟩ = some (.int .i64 fe) := HO0.out.c 1 rfl
    have o2 : wq.cell? ⟨w.heap.size, 2, none⟩ = some (.int .i64 x) := HO0.out.c 2 rfl
    have o3 : wq.cell? ⟨w.heap.size, 3, none⟩ = some (.int .i64 y) := HO0.out.c 3 rfl
    have n3 : wq.cell? ⟨n, 3, none⟩ = some (.slice va l.length vc) := HN0.out.c 3 rfl
    go_region_law (first | (go_simp; go_at_call 32; refine (isOrder_any _ _ _ _ _).mono ?_; rintro e w2 ⟨rfl, b2⟩; rw [show (inr seq 0 1000000 && (inr fe 0 1000000000 && (inr (x : Int) 0 1199 && inr y 0 15))) = true from HOK.out]; have B2 := Lib.hid (show Below wq.heap.size wq w2 from (below_drew _ _).trans b2); have p2 : w2.cell? ⟨w.heap.size, 2, none⟩ = some (.int .i64 x) := (HOo.out _ B2.out).c 2 rfl; have q3 : w2.cell? ⟨n, 3, none⟩ = some (.slice va l.length vc) := (HNn.out _ B2.out).c 3 rfl; clear b2) | (go_simp; go_at_call 33; refine (isValid_any t f dn s (.slice va l.length vc) l n _ (HNn.out _ B2.out) (HIV.out.step B2.out)).mono ?_; rintro e w3 ⟨rfl, b3⟩; rw [show (inr f 0 1000000000 && (vaB l && inr dn 0 1000001)) = true from HKK.out]; have B3 := Lib.hid (keep2 b3 B2.out); have p3 : w3.cell? ⟨w.heap.size, 2, none⟩ = some (.int .i64 x) := (HOo.out _ B3.out).c 2 rfl; have q4 : w3.cell? ⟨n, 3, none⟩ = some (.slice va l.length vc) := (HNn.out _ B3.out).c 3 rfl; clear b3))
    all_goals go_wp2
    all_goals go_meet
    all_goals exact ⟨rfl, B3.out⟩
  case rest =>
    obtain ⟨rfl, hb⟩ := hcut
    have HN1 := Lib.hid (HN0.out.step hb)
    have HO1 := Lib.hid (HO0.out.step hb)
    have HB1 := Lib.hid (keep2 hb HB0.out)
    have HS1 := Lib.hid (HS0.out.step hb)
    have HV1 := Lib.hid (row_step HV0.out hb)
    clear hb HN0 HO0 HB0 HS0 HV0
    go_upto_region 3 with fail
    go_cut [6, 7] from 27 to 37 (fun p q wc' => WnG wc T A 16 p q wc')
    case first =>
      have o0 : wc.cell? ⟨w.heap.size, 0, none⟩ = some (.int .i64 seq) := HO1.out.c 0 rfl
      have n0 : wc.cell? ⟨n, 0, none⟩ = some (.int .i64 t) := HN1.out.c 0 rfl
      have n1 : wc.cell? ⟨n, 1, none⟩ = some s := HN1.out.c 1 rfl
      have oo0 : (wc.alloc (.cells #[.int .i64 0, .slice none 0 0] 28)).cell? ⟨w.heap.size, 0, none⟩ = some (.int .i64 seq) := (HO1.out.alloc _).c 0 rfl
      have nn0 : (wc.alloc (.cells #[.int .i64 0, .slice none 0 0] 28)).cell? ⟨n, 0, none⟩ = some (.int .i64 t) := (HN1.out.alloc _).c 0 rfl
      have nn1 : (wc.alloc (.cells #[.int .i64 0, .slice none 0 0] 28)).cell? ⟨n, 1, none⟩ = some s := (HN1.out.alloc _).c 1 rfl
      go_region_law (go_simp; go_at_call 34; refine (HACC.out _ (HS1.out.step (by first | exact below_drew _ _ | exact (al _ _).trans (below_drew _ _)))).mono ?_; rintro e w3 ⟨aa, cc, rfl, hcl, hg, b3, hge⟩; have HG3 := Lib.hid hg; have HCL := Lib.hid hcl; have HW3 := Lib.hid (show Below wc.heap.size wc w3 from by first | exact (below_drew _ _).trans b3 | exact keep2 b3 ((al wc _).trans (below_drew _ _))); (first | (have HGE := Lib.hid (show ∀ g o, aa = some ⟨g, o, none⟩ → wc.heap.size < g from fun g o e => Nat.lt_of_lt_of_le (by simp) (show (wc.alloc (.cells #[.int .i64 0, .slice none 0 0] 28)).drew.heap.size ≤ g from hge g o e)); have HQ3 := Lib.hid (show Cs w3 wc.heap.size #[.int .i64 0, .slice none 0 0] from ((Cs.new wc wc.heap.size #[.int .i64 0, .slice none 0 0] 28 rfl).step (below_drew _ _)).step b3); have q0 : w3.cell? ⟨wc.heap.size, 0, none⟩ = some (.int .i64 0) := HQ3.out.c 0 rfl; have q1 : w3.cell? ⟨wc.heap.size, 1, none⟩ = some (.slice none 0 0) := HQ3.out.c 1 rfl; have g0 := HQ3.out.f 0 (by simp); have g1 := HQ3.out.f 1 (by simp)) | (have HGA := Lib.hid (show ∀ g o, aa = some ⟨g, o, none⟩ → wc.heap.size ≤ g from hge))); clear hg hge b3 hcl)
      all_goals go_wp2
      all_goals go_meet
      all_goals first | with_reducible exact WnG.after HW3.out HG3.out HCL.out HGA.out | with_reducible exact WnG.before HW3.out HG3.out HCL.out HGE.out HQ3.out
    case rest =>
      obtain ⟨k, cc, aa, rfl, rfl, hk, hgl, hcs, hg, hcl, hb⟩ := hcut
      have HN2 := Lib.hid (HN1.out.step hb)
      have HO2 := Lib.hid (HO1.out.step hb)
      have HB2 := Lib.hid (keep2 hb HB1.out)
      have HK2 := Lib.hid hcs
      have r0 : wc.cell? ⟨w.heap.size, 0, none⟩ = some (.int .i64 seq) := HO2.out.c 0 rfl
      have r1 : wc.cell? ⟨w.heap.size, 1, none⟩ = some (.int .i64 fe) := HO2.out.c 1 rfl
      have n0 : wc.cell? ⟨n, 0, none⟩ = some (.int .i64 t) := HN2.out.c 0 rfl
      have n2 : wc.cell? ⟨n, 2, none⟩ = some (.int .i64 f) := HN2.out.c 2 rfl
      have nz : n < wc.heap.size := HN2.out.2.2
      have rz : w.heap.size < wc.heap.size := HO2.out.2.2
      clear hb hk hcs hg hcl hgl HN1 HO1 HB1 HS1 HV1
      go_wp2_with fail
      go_quiet (fail)
      go_wp2
      exact bodyPost_ret (v := .tuple #[.bool true, .int .i64 0]) (by simp [results, Try.results22, go_sem]) rfl ⟨rfl, HB2.out.trans (by first | exact below_drewN' _ _ _ | exact (below_drewN' _ _ _).trans (below_drewN' _ _ _))⟩
open Go.RowKit

set_option maxRecDepth 100000 in
set_option maxHeartbeats 8000000 in
theorem recv_old (t f dn fe y seq T er : Int) (x : Nat) (s : Value) (L A : List Bool) (va : Option Addr) (vc : Nat) (l : List Int) (n B : Nat) (w : World) (hc : Cs w n #[.int .i64 t, s, .int .i64 f, .slice va l.length vc, .int .i64 dn]) (hs : BosAt w s L)
    (hv : w.ownsRow B 3 1 (.slice va l.length vc) l.length (l.map (Value.int .i64))) (ho : orB seq fe x y = true) (hk : rvB f l dn = true) (hx : x < l.length) (hvn : ∀ g, va = some ⟨g, 0, none⟩ → g ≠ n) (hnw : n < w.heap.size)
    (hacc : ∀ W, BosAt W s L → Calls Try.prog 34 #[.agg #[.int .i64 t, s], .int .i64 seq] W (AcF W T A er)) (her : er = 16) (ht : -1 ≤ t ∧ t ≤ 1000000) (hst : ¬ t - 16 < seq) :
    Calls Try.prog 22 #[.pointer (some ⟨n, 0, none⟩), .agg #[.int .i64 seq, .int .i64 fe, .int .i64 x, .int .i64 y]] w fun e w' => e = .returned (.tuple #[.bool false, .int .i64 16]) ∧ Below w.heap.size w w' := by
  have HVL := Lib.hid (show ∀ g, va = some ⟨g, 0, none⟩ → B ≤ g ∧ g < w.heap.size from fun g h => row_lt hv h)
  have HN0 := Lib.hid (hc.alloc (.cells #[.int .i64 seq, .int .i64 fe, .int .i64 x, .int .i64 y] 42))
  have HO0 := Lib.hid (Cs.new w w.heap.size #[.int .i64 seq, .int .i64 fe, .int .i64 x, .int .i64 y] 42 rfl)
  have HB0 := Lib.hid (al w (.cells #[.int .i64 seq, .int .i64 fe, .int .i64 x, .int .i64 y] 42))
  have HS0 := Lib.hid (hs.step HB0.out)
  have HV0 := Lib.hid (row_step hv HB0.out)
  have HOK := Lib.hid ho
  have HKK := Lib.hid hk
  have HX := Lib.hid hx
  have HVN := Lib.hid hvn
  have HNW := Lib.hid hnw
  have HACC := Lib.hid hacc
  clear hvn hnw hacc
  clear hc hs hv ho hk hx
  subst her
  have w1 : wrap64 (t - 16) = t - 16 := IntWalk.wrap64_in _ (by omega)
  have d1 : decide (seq > t - 16) = false := by simp; omega
  have d2 : decide (t - 16 < seq) = false := by simp; omega
  clear ht
  go_enter Try.func22, Try.ntmps22
  go_upto_region 1 with fail
  generalize w.alloc (.cells #[.int .i64 seq, .int .i64 fe, .int .i64 x, .int .i64 y] 42) = wq at *
  go_cut [26] from 8 to 26 (fun p wc => p = .bool false ∧ Below wq.heap.size wq wc)
  case first =>
    have hxl : (x : Int) < (l.length : Int) := by have := HX.out; omega
    have hxd : decide ((l.length : Int) ≤ (x : Int)) = false := by simp; omega
    have hxd2 : decide (l.length ≤ x) = false := by have := HX.out; simp; omega
    have HIV := Lib.hid (ints_of_row HV0.out)
    have HNn := Lib.hid (show ∀ w', Below wq.heap.size wq w' → Cs w' n #[.int .i64 t, s, .int .i64 f, .slice va l.length vc, .int .i64 dn] from fun w' h => HN0.out.step h)
    have HOo := Lib.hid (show ∀ w', Below wq.heap.size wq w' → Cs w' w.heap.size #[.int .i64 seq, .int .i64 fe, .int .i64 x, .int .i64 y] from fun w' h => HO0.out.step h)
    have o0 : wq.cell? ⟨w.heap.size, 0, none⟩ = some (.int .i64 seq) := HO0.out.c 0 rfl
    have o1 : wq.cell? ⟨w.heap.size, 1, none⟩ = some (.int .i64 fe) := HO0.out.c 1 rfl
    have o2 : wq.cell? ⟨w.heap.size, 2, none⟩ = some (.int .i64 x) := HO0.out.c 2 rfl
    have o3 : wq.cell? ⟨w.heap.size, 3, none⟩ = some (.int .i64 y) := HO0.out.c 3 rfl
    have n3 : wq.cell? ⟨n, 3, none⟩ = some (.slice va l.length vc) := HN0.out.c 3 rfl
    go_region_law (first | (go_simp; go_at_call 32; refine (isOrder_any _ _ _ _ _).mono ?_; rintro e w2 ⟨rfl, b2⟩; rw [show (inr seq 0 1000000 && (inr fe 0 1000000000 && (inr (x : Int) 0 1199 && inr y 0 15))) = true from HOK.out]; have B2 := Lib.hid (show Below wq.heap.size wq w2 from (below_drew _ _).trans b2); have p2 : w2.cell? ⟨w.heap.size, 2, none⟩ = some (.int .i64 x) := (HOo.out _ B2.out).c 2 rfl; have q3 : w2.cell? ⟨n, 3, none⟩ = some (.slice va l.length vc) := (HNn.out _ B2.out).c 3 rfl; clear b2) | (go_simp; go_at_call 33; refine (isValid_any t f dn s (.slice va l.length vc) l n _ (HNn.out _ B2.out) (HIV.out.step B2.out)).mono ?_; rintro e w3 ⟨rfl, b3⟩; rw [show (inr f 0 1000000000 && (vaB l && inr dn 0 1000001)) = true from HKK.out]; have B3 := Lib.hid (keep2 b3 B2.out); have p3 : w3.cell? ⟨w.heap.size, 2, none⟩ = some (.int .i64 x) := (HOo.out _ B3.out).c 2 rfl; have q4 : w3.cell? ⟨n, 3, none⟩ = some (.slice va l.length vc) := (HNn.out _ B3.out).c 3 rfl; clear b3))
    all_goals go_wp2
    all_goals go_meet
    all_goals exact ⟨rfl, B3.out⟩
  case rest =>
    obtain ⟨rfl, hb⟩ := hcut
    have HN1 := Lib.hid (HN0.out.step hb)
    have HO1 := Lib.hid (HO0.out.step hb)
    have HB1 := Lib.hid (keep2 hb HB0.out)
    have HS1 := Lib.hid (HS0.out.step hb)
    have HV1 := Lib.hid (row_step HV0.out hb)
    clear hb HN0 HO0 HB0 HS0 HV0
    go_upto_region 3 with fail
    go_cut [6, 7] from 27 to 37 (fun p q wc' => WnG wc T A 16 p q wc')
    case first =>
      have o0 : wc.cell? ⟨w.heap.size, 0, none⟩ = some (.int .i64 seq) := HO1.out.c 0 rfl
      have n0 : wc.cell? ⟨n, 0, none⟩ = some (.int .i64 t) := HN1.out.c 0 rfl
      have n1 : wc.cell? ⟨n, 1, none⟩ = some s := HN1.out.c 1 rfl
      have oo0 : (wc.alloc (.cells #[.int .i64 0, .slice none 0 0] 28)).cell? ⟨w.heap.size, 0, none⟩ = some (.int .i64 seq) := (HO1.out.alloc _).c 0 rfl
      have nn0 : (wc.alloc (.cells #[.int .i64 0, .slice none 0 0] 28)).cell? ⟨n, 0, none⟩ = some (.int .i64 t) := (HN1.out.alloc _).c 0 rfl
      have nn1 : (wc.alloc (.cells #[.int .i64 0, .slice none 0 0] 28)).cell? ⟨n, 1, none⟩ = some s := (HN1.out.alloc _).c 1 rfl
      go_region_law (go_simp; go_at_call 34; refine (HACC.out _ (HS1.out.step (by first | exact below_drew _ _ | exact (al _ _).trans (below_drew _ _)))).mono ?_; rintro e w3 ⟨aa, cc, rfl, hcl, hg, b3, hge⟩; have HG3 := Lib.hid hg; have HCL := Lib.hid hcl; have HW3 := Lib.hid (show Below wc.heap.size wc w3 from by first | exact (below_drew _ _).trans b3 | exact keep2 b3 ((al wc _).trans (below_drew _ _))); (first | (have HGE := Lib.hid (show ∀ g o, aa = some ⟨g, o, none⟩ → wc.heap.size < g from fun g o e => Nat.lt_of_lt_of_le (by simp) (show (wc.alloc (.cells #[.int .i64 0, .slice none 0 0] 28)).drew.heap.size ≤ g from hge g o e)); have HQ3 := Lib.hid (show Cs w3 wc.heap.size #[.int .i64 0, .slice none 0 0] from ((Cs.new wc wc.heap.size #[.int .i64 0, .slice none 0 0] 28 rfl).step (below_drew _ _)).step b3); have q0 : w3.cell? ⟨wc.heap.size, 0, none⟩ = some (.int .i64 0) := HQ3.out.c 0 rfl; have q1 : w3.cell? ⟨wc.heap.size, 1, none⟩ = some (.slice none 0 0) := HQ3.out.c 1 rfl; have g0 := HQ3.out.f 0 (by simp); have g1 := HQ3.out.f 1 (by simp)) | (have HGA := Lib.hid (show ∀ g o, aa = some ⟨g, o, none⟩ → wc.heap.size ≤ g from hge))); clear hg hge b3 hcl)
      all_goals go_wp2
      all_goals go_meet
      all_goals first | with_reducible exact WnG.after HW3.out HG3.out HCL.out HGA.out | with_reducible exact WnG.before HW3.out HG3.out HCL.out HGE.out HQ3.out
    case rest =>
      obtain ⟨k, cc, aa, rfl, rfl, hk, hgl, hcs, hg, hcl, hb⟩ := hcut
      have HN2 := Lib.hid (HN1.out.step hb)
      have HO2 := Lib.hid (HO1.out.step hb)
      have HB2 := Lib.hid (keep2 hb HB1.out)
      have HK2 := Lib.hid hcs
      have r0 : wc.cell? ⟨w.heap.size, 0, none⟩ = some (.int .i64 seq) := HO2.out.c 0 rfl
      have r1 : wc.cell? ⟨w.heap.size, 1, none⟩ = some (.int .i64 fe) := HO2.out.c 1 rfl
      have n0 : wc.cell? ⟨n, 0, none⟩ = some (.int .i64 t) := HN2.out.c 0 rfl
      have n2 : wc.cell? ⟨n, 2, none⟩ = some (.int .i64 f) := HN2.out.c 2 rfl
      have nz : n < wc.heap.size := HN2.out.2.2
      have rz : w.heap.size < wc.heap.size := HO2.out.2.2
      clear hb hk hcs hg hcl hgl HN1 HO1 HB1 HS1 HV1
      go_wp2_with fail
      go_quiet (fail)
      go_wp2
      exact bodyPost_ret (v := .tuple #[.bool false, .int .i64 16]) (by simp [results, Try.results22, go_sem]) rfl ⟨rfl, HB2.out.trans (by first | exact below_drewN' _ _ _ | exact (below_drewN' _ _ _).trans (below_drewN' _ _ _))⟩
open Go.RowKit

set_option maxRecDepth 100000 in
set_option maxHeartbeats 8000000 in
theorem recv_win (t f dn fe y seq T er : Int) (x : Nat) (s : Value) (L A : List Bool) (va : Option Addr) (vc : Nat) (l : List Int) (n B : Nat) (w : World) (hc : Cs w n #[.int .i64 t, s, .int .i64 f, .slice va l.length vc, .int .i64 dn]) (hs : BosAt w s L)
    (hv : w.ownsRow B 3 1 (.slice va l.length vc) l.length (l.map (Value.int .i64))) (ho : orB seq fe x y = true) (hk : rvB f l dn = true) (hx : x < l.length) (hvn : ∀ g, va = some ⟨g, 0, none⟩ → g ≠ n) (hnw : n < w.heap.size)
    (hacc : ∀ W, BosAt W s L → Calls Try.prog 34 #[.agg #[.int .i64 t, s], .int .i64 seq] W (AcF W T A er)) (her : er = 1) :
    Calls Try.prog 22 #[.pointer (some ⟨n, 0, none⟩), .agg #[.int .i64 seq, .int .i64 fe, .int .i64 x, .int .i64 y]] w fun e w' => e = .returned (.tuple #[.bool false, .int .i64 1]) ∧ Below w.heap.size w w' := by
  have HVL := Lib.hid (show ∀ g, va = some ⟨g, 0, none⟩ → B ≤ g ∧ g < w.heap.size from fun g h => row_lt hv h)
  have HN0 := Lib.hid (hc.alloc (.cells #[.int .i64 seq, .int .i64 fe, .int .i64 x, .int .i64 y] 42))
  have HO0 := Lib.hid (Cs.new w w.heap.size #[.int .i64 seq, .int .i64 fe, .int .i64 x, .int .i64 y] 42 rfl)
  have HB0 := Lib.hid (al w (.cells #[.int .i64 seq, .int .i64 fe, .int .i64 x, .int .i64 y] 42))
  have HS0 := Lib.hid (hs.step HB0.out)
  have HV0 := Lib.hid (row_step hv HB0.out)
  have HOK := Lib.hid ho
  have HKK := Lib.hid hk
  have HX := Lib.hid hx
  have HVN := Lib.hid hvn
  have HNW := Lib.hid hnw
  have HACC := Lib.hid hacc
  clear hvn hnw hacc
  clear hc hs hv ho hk hx
  subst her
  go_enter Try.func22, Try.ntmps22
  go_upto_region 1 with fail
  generalize w.alloc (.cells #[.int .i64 seq, .int .i64 fe, .int .i64 x, .int .i64 y] 42) = wq at *
  go_cut [26] from 8 to 26 (fun p wc => p = .bool false ∧ Below wq.heap.size wq wc)
  case first =>
    have hxl : (x : Int) < (l.length : Int) := by have := HX.out; omega
    have hxd : decide ((l.length : Int) ≤ (x : Int)) = false := by simp; omega
    have hxd2 : decide (l.length ≤ x) = false := by have := HX.out; simp; omega
    have HIV := Lib.hid (ints_of_row HV0.out)
    have HNn := Lib.hid (show ∀ w', Below wq.heap.size wq w' → Cs w' n #[.int .i64 t, s, .int .i64 f, .slice va l.length vc, .int .i64 dn] from fun w' h => HN0.out.step h)
    have HOo := Lib.hid (show ∀ w', Below wq.heap.size wq w' → Cs w' w.heap.size #[.int .i64 seq, .int .i64 fe, .int .i64 x, .int .i64 y] from fun w' h => HO0.out.step h)
    have o0 : wq.cell? ⟨w.heap.size, 0, none⟩ = some (.int .i64 seq) := HO0.out.c 0 rfl
    have o1 : wq.cell? ⟨w.heap.size, 1, none⟩ = some (.int .i64 fe) := HO0.out.c 1 rfl
    have o2 : wq.cell? ⟨w.heap.size, 2, none⟩ = some (.int .i64 x) := HO0.out.c 2 rfl
    have o3 : wq.cell? ⟨w.heap.size, 3, none⟩ = some (.int .i64 y) := HO0.out.c 3 rfl
    have n3 : wq.cell? ⟨n, 3, none⟩ = some (.slice va l.length vc) := HN0.out.c 3 rfl
    go_region_law (first | (go_simp; go_at_call 32; refine (isOrder_any _ _ _ _ _).mono ?_; rintro e w2 ⟨rfl, b2⟩; rw [show (inr seq 0 1000000 && (inr fe 0 1000000000 && (inr (x : Int) 0 1199 && inr y 0 15))) = true from HOK.out]; have B2 := Lib.hid (show Below wq.heap.size wq w2 from (below_drew _ _).trans b2); have p2 : w2.cell? ⟨w.heap.size, 2, none⟩ = some (.int .i64 x) := (HOo.out _ B2.out).c 2 rfl; have q3 : w2.cell? ⟨n, 3, none⟩ = some (.slice va l.length vc) := (HNn.out _ B2.out).c 3 rfl; clear b2) | (go_simp; go_at_call 33; refine (isValid_any t f dn s (.slice va l.length vc) l n _ (HNn.out _ B2.out) (HIV.out.step B2.out)).mono ?_; rintro e w3 ⟨rfl, b3⟩; rw [show (inr f 0 1000000000 && (vaB l && inr dn 0 1000001)) = true from HKK.out]; have B3 := Lib.hid (keep2 b3 B2.out); have p3 : w3.cell? ⟨w.heap.size, 2, none⟩ = some (.int .i64 x) := (HOo.out _ B3.out).c 2 rfl; have q4 : w3.cell? ⟨n, 3, none⟩ = some (.slice va l.length vc) := (HNn.out _ B3.out).c 3 rfl; clear b3))
    all_goals go_wp2
    all_goals go_meet
    all_goals exact ⟨rfl, B3.out⟩
  case rest =>
    obtain ⟨rfl, hb⟩ := hcut
    have HN1 := Lib.hid (HN0.out.step hb)
    have HO1 := Lib.hid (HO0.out.step hb)
    have HB1 := Lib.hid (keep2 hb HB0.out)
    have HS1 := Lib.hid (HS0.out.step hb)
    have HV1 := Lib.hid (row_step HV0.out hb)
    clear hb HN0 HO0 HB0 HS0 HV0
    go_upto_region 3 with fail
    go_cut [6, 7] from 27 to 37 (fun p q wc' => WnG wc T A 1 p q wc')
    case first =>
      have o0 : wc.cell? ⟨w.heap.size, 0, none⟩ = some (.int .i64 seq) := HO1.out.c 0 rfl
      have n0 : wc.cell? ⟨n, 0, none⟩ = some (.int .i64 t) := HN1.out.c 0 rfl
      have n1 : wc.cell? ⟨n, 1, none⟩ = some s := HN1.out.c 1 rfl
      have oo0 : (wc.alloc (.cells #[.int .i64 0, .slice none 0 0] 28)).cell? ⟨w.heap.size, 0, none⟩ = some (.int .i64 seq) := (HO1.out.alloc _).c 0 rfl
      have nn0 : (wc.alloc (.cells #[.int .i64 0, .slice none 0 0] 28)).cell? ⟨n, 0, none⟩ = some (.int .i64 t) := (HN1.out.alloc _).c 0 rfl
      have nn1 : (wc.alloc (.cells #[.int .i64 0, .slice none 0 0] 28)).cell? ⟨n, 1, none⟩ = some s := (HN1.out.alloc _).c 1 rfl
      go_region_law (go_simp; go_at_call 34; refine (HACC.out _ (HS1.out.step (by first | exact below_drew _ _ | exact (al _ _).trans (below_drew _ _)))).mono ?_; rintro e w3 ⟨aa, cc, rfl, hcl, hg, b3, hge⟩; have HG3 := Lib.hid hg; have HCL := Lib.hid hcl; have HW3 := Lib.hid (show Below wc.heap.size wc w3 from by first | exact (below_drew _ _).trans b3 | exact keep2 b3 ((al wc _).trans (below_drew _ _))); (first | (have HGE := Lib.hid (show ∀ g o, aa = some ⟨g, o, none⟩ → wc.heap.size < g from fun g o e => Nat.lt_of_lt_of_le (by simp) (show (wc.alloc (.cells #[.int .i64 0, .slice none 0 0] 28)).drew.heap.size ≤ g from hge g o e)); have HQ3 := Lib.hid (show Cs w3 wc.heap.size #[.int .i64 0, .slice none 0 0] from ((Cs.new wc wc.heap.size #[.int .i64 0, .slice none 0 0] 28 rfl).step (below_drew _ _)).step b3); have q0 : w3.cell? ⟨wc.heap.size, 0, none⟩ = some (.int .i64 0) := HQ3.out.c 0 rfl; have q1 : w3.cell? ⟨wc.heap.size, 1, none⟩ = some (.slice none 0 0) := HQ3.out.c 1 rfl; have g0 := HQ3.out.f 0 (by simp); have g1 := HQ3.out.f 1 (by simp)) | (have HGA := Lib.hid (show ∀ g o, aa = some ⟨g, o, none⟩ → wc.heap.size ≤ g from hge))); clear hg hge b3 hcl)
      all_goals go_wp2
      all_goals go_meet
      all_goals first | with_reducible exact WnG.after HW3.out HG3.out HCL.out HGA.out | with_reducible exact WnG.before HW3.out HG3.out HCL.out HGE.out HQ3.out
    case rest =>
      obtain ⟨k, cc, aa, rfl, rfl, hk, hgl, hcs, hg, hcl, hb⟩ := hcut
      have HN2 := Lib.hid (HN1.out.step hb)
      have HO2 := Lib.hid (HO1.out.step hb)
      have HB2 := Lib.hid (keep2 hb HB1.out)
      have HK2 := Lib.hid hcs
      have r0 : wc.cell? ⟨w.heap.size, 0, none⟩ = some (.int .i64 seq) := HO2.out.c 0 rfl
      have r1 : wc.cell? ⟨w.heap.size, 1, none⟩ = some (.int .i64 fe) := HO2.out.c 1 rfl
      have n0 : wc.cell? ⟨n, 0, none⟩ = some (.int .i64 t) := HN2.out.c 0 rfl
      have n2 : wc.cell? ⟨n, 2, none⟩ = some (.int .i64 f) := HN2.out.c 2 rfl
      have nz : n < wc.heap.size := HN2.out.2.2
      have rz : w.heap.size < wc.heap.size := HO2.out.2.2
      clear hb hk hcs hg hcl hgl HN1 HO1 HB1 HS1 HV1
      go_wp2_with fail
      go_quiet (fail)
      go_wp2
      exact bodyPost_ret (v := .tuple #[.bool false, .int .i64 1]) (by simp [results, Try.results22, go_sem]) rfl ⟨rfl, HB2.out.trans (by first | exact below_drewN' _ _ _ | exact (below_drewN' _ _ _).trans (below_drewN' _ _ _))⟩
open Go.RowKit

set_option maxRecDepth 100000 in
set_option maxHeartbeats 8000000 in
theorem recv_low (t f dn fe y seq T er : Int) (x : Nat) (s : Value) (L A : List Bool) (va : Option Addr) (vc : Nat) (l : List Int) (n B : Nat) (w : World) (hc : Cs w n #[.int .i64 t, s, .int .i64 f, .slice va l.length vc, .int .i64 dn]) (hs : BosAt w s L)
    (hv : w.ownsRow B 3 1 (.slice va l.length vc) l.length (l.map (Value.int .i64))) (ho : orB seq fe x y = true) (hk : rvB f l dn = true) (hx : x < l.length) (hvn : ∀ g, va = some ⟨g, 0, none⟩ → g ≠ n) (hnw : n < w.heap.size)
    (hacc : ∀ W, BosAt W s L → Calls Try.prog 34 #[.agg #[.int .i64 t, s], .int .i64 seq] W (AcF W T A er)) (her : er = 0) (hf : fe < f) :
    Calls Try.prog 22 #[.pointer (some ⟨n, 0, none⟩), .agg #[.int .i64 seq, .int .i64 fe, .int .i64 x, .int .i64 y]] w fun e w' => e = .returned (.tuple #[.bool false, .int .i64 23]) ∧ Below w.heap.size w w' := by
  have HVL := Lib.hid (show ∀ g, va = some ⟨g, 0, none⟩ → B ≤ g ∧ g < w.heap.size from fun g h => row_lt hv h)
  have HN0 := Lib.hid (hc.alloc (.cells #[.int .i64 seq, .int .i64 fe, .int .i64 x, .int .i64 y] 42))
  have HO0 := Lib.hid (Cs.new w w.heap.size #[.int .i64 seq, .int .i64 fe, .int .i64 x, .int .i64 y] 42 rfl)
  have HB0 := Lib.hid (al w (.cells #[.int .i64 seq, .int .i64 fe, .int .i64 x, .int .i64 y] 42))
  have HS0 := Lib.hid (hs.step HB0.out)
  have HV0 := Lib.hid (row_step hv HB0.out)
  have HOK := Lib.hid ho
  have HKK := Lib.hid hk
  have HX := Lib.hid hx
  have HVN := Lib.hid hvn
  have HNW := Lib.hid hnw
  have HACC := Lib.hid hacc
  clear hvn hnw hacc
  clear hc hs hv ho hk hx
  subst her
  have d1 : decide (fe < f) = true := decide_eq_true hf
  go_enter Try.func22, Try.ntmps22
  go_upto_region 1 with fail
  generalize w.alloc (.cells #[.int .i64 seq, .int .i64 fe, .int .i64 x, .int .i64 y] 42) = wq at *
  go_cut [26] from 8 to 26 (fun p wc => p = .bool false ∧ Below wq.heap.size wq wc)
  case first =>
    have hxl : (x : Int) < (l.length : Int) := by have := HX.out; omega
    have hxd : decide ((l.length : Int) ≤ (x : Int)) = false := by simp; omega
    have hxd2 : decide (l.length ≤ x) = false := by have := HX.out; simp; omega
    have HIV := Lib.hid (ints_of_row HV0.out)
    have HNn := Lib.hid (show ∀ w', Below wq.heap.size wq w' → Cs w' n #[.int .i64 t, s, .int .i64 f, .slice va l.length vc, .int .i64 dn] from fun w' h => HN0.out.step h)
    have HOo := Lib.hid (show ∀ w', Below wq.heap.size wq w' → Cs w' w.heap.size #[.int .i64 seq, .int .i64 fe, .int .i64 x, .int .i64 y] from fun w' h => HO0.out.step h)
    have o0 : wq.cell? ⟨w.heap.size, 0, none⟩ = some (.int .i64 seq) := HO0.out.c 0 rfl
    have o1 : wq.cell? ⟨w.heap.size, 1, none⟩ = some (.int .i64 fe) := HO0.out.c 1 rfl
    have o2 : wq.cell? ⟨w.heap.size, 2, none⟩ = some (.int .i64 x) := HO0.out.c 2 rfl
    have o3 : wq.cell? ⟨w.heap.size, 3, none⟩ = some (.int .i64 y) := HO0.out.c 3 rfl
    have n3 : wq.cell? ⟨n, 3, none⟩ = some (.slice va l.length vc) := HN0.out.c 3 rfl
    go_region_law (first | (go_simp; go_at_call 32; refine (isOrder_any _ _ _ _ _).mono ?_; rintro e w2 ⟨rfl, b2⟩; rw [show (inr seq 0 1000000 && (inr fe 0 1000000000 && (inr (x : Int) 0 1199 && inr y 0 15))) = true from HOK.out]; have B2 := Lib.hid (show Below wq.heap.size wq w2 from (below_drew _ _).trans b2); have p2 : w2.cell? ⟨w.heap.size, 2, none⟩ = some (.int .i64 x) := (HOo.out _ B2.out).c 2 rfl; have q3 : w2.cell? ⟨n, 3, none⟩ = some (.slice va l.length vc) := (HNn.out _ B2.out).c 3 rfl; clear b2) | (go_simp; go_at_call 33; refine (isValid_any t f dn s (.slice va l.length vc) l n _ (HNn.out _ B2.out) (HIV.out.step B2.out)).mono ?_; rintro e w3 ⟨rfl, b3⟩; rw [show (inr f 0 1000000000 && (vaB l && inr dn 0 1000001)) = true from HKK.out]; have B3 := Lib.hid (keep2 b3 B2.out); have p3 : w3.cell? ⟨w.heap.size, 2, none⟩ = some (.int .i64 x) := (HOo.out _ B3.out).c 2 rfl; have q4 : w3.cell? ⟨n, 3, none⟩ = some (.slice va l.length vc) := (HNn.out _ B3.out).c 3 rfl; clear b3))
    all_goals go_wp2
    all_goals go_meet
    all_goals exact ⟨rfl, B3.out⟩
  case rest =>
    obtain ⟨rfl, hb⟩ := hcut
    have HN1 := Lib.hid (HN0.out.step hb)
    have HO1 := Lib.hid (HO0.out.step hb)
    have HB1 := Lib.hid (keep2 hb HB0.out)
    have HS1 := Lib.hid (HS0.out.step hb)
    have HV1 := Lib.hid (row_step HV0.out hb)
    clear hb HN0 HO0 HB0 HS0 HV0
    go_upto_region 3 with fail
    go_cut [6, 7] from 27 to 37 (fun p q wc' => WnG wc T A 0 p q wc')
    case first =>
      have o0 : wc.cell? ⟨w.heap.size, 0, none⟩ = some (.int .i64 seq) := HO1.out.c 0 rfl
      have n0 : wc.cell? ⟨n, 0, none⟩ = some (.int .i64 t) := HN1.out.c 0 rfl
      have n1 : wc.cell? ⟨n, 1, none⟩ = some s := HN1.out.c 1 rfl
      have oo0 : (wc.alloc (.cells #[.int .i64 0, .slice none 0 0] 28)).cell? ⟨w.heap.size, 0, none⟩ = some (.int .i64 seq) := (HO1.out.alloc _).c 0 rfl
      have nn0 : (wc.alloc (.cells #[.int .i64 0, .slice none 0 0] 28)).cell? ⟨n, 0, none⟩ = some (.int .i64 t) := (HN1.out.alloc _).c 0 rfl
      have nn1 : (wc.alloc (.cells #[.int .i64 0, .slice none 0 0] 28)).cell? ⟨n, 1, none⟩ = some s := (HN1.out.alloc _).c 1 rfl
      go_region_law (go_simp; go_at_call 34; refine (HACC.out _ (HS1.out.step (by first | exact below_drew _ _ | exact (al _ _).trans (below_drew _ _)))).mono ?_; rintro e w3 ⟨aa, cc, rfl, hcl, hg, b3, hge⟩; have HG3 := Lib.hid hg; have HCL := Lib.hid hcl; have HW3 := Lib.hid (show Below wc.heap.size wc w3 from by first | exact (below_drew _ _).trans b3 | exact keep2 b3 ((al wc _).trans (below_drew _ _))); (first | (have HGE := Lib.hid (show ∀ g o, aa = some ⟨g, o, none⟩ → wc.heap.size < g from fun g o e => Nat.lt_of_lt_of_le (by simp) (show (wc.alloc (.cells #[.int .i64 0, .slice none 0 0] 28)).drew.heap.size ≤ g from hge g o e)); have HQ3 := Lib.hid (show Cs w3 wc.heap.size #[.int .i64 0, .slice none 0 0] from ((Cs.new wc wc.heap.size #[.int .i64 0, .slice none 0 0] 28 rfl).step (below_drew _ _)).step b3); have q0 : w3.cell? ⟨wc.heap.size, 0, none⟩ = some (.int .i64 0) := HQ3.out.c 0 rfl; have q1 : w3.cell? ⟨wc.heap.size, 1, none⟩ = some (.slice none 0 0) := HQ3.out.c 1 rfl; have g0 := HQ3.out.f 0 (by simp); have g1 := HQ3.out.f 1 (by simp)) | (have HGA := Lib.hid (show ∀ g o, aa = some ⟨g, o, none⟩ → wc.heap.size ≤ g from hge))); clear hg hge b3 hcl)
      all_goals go_wp2
      all_goals go_meet
      all_goals first | with_reducible exact WnG.after HW3.out HG3.out HCL.out HGA.out | with_reducible exact WnG.before HW3.out HG3.out HCL.out HGE.out HQ3.out
    case rest =>
      obtain ⟨k, cc, aa, rfl, rfl, hk, hgl, hcs, hg, hcl, hb⟩ := hcut
      have HN2 := Lib.hid (HN1.out.step hb)
      have HO2 := Lib.hid (HO1.out.step hb)
      have HB2 := Lib.hid (keep2 hb HB1.out)
      have HK2 := Lib.hid hcs
      have r0 : wc.cell? ⟨w.heap.size, 0, none⟩ = some (.int .i64 seq) := HO2.out.c 0 rfl
      have r1 : wc.cell? ⟨w.heap.size, 1, none⟩ = some (.int .i64 fe) := HO2.out.c 1 rfl
      have n0 : wc.cell? ⟨n, 0, none⟩ = some (.int .i64 t) := HN2.out.c 0 rfl
      have n2 : wc.cell? ⟨n, 2, none⟩ = some (.int .i64 f) := HN2.out.c 2 rfl
      have nz : n < wc.heap.size := HN2.out.2.2
      have rz : w.heap.size < wc.heap.size := HO2.out.2.2
      clear hb hk hcs hg hcl hgl HN1 HO1 HB1 HS1 HV1
      go_wp2_with fail
      go_quiet (fail)
      go_wp2_with fail
      go_quiet (fail)
      go_wp2
      exact bodyPost_ret (v := .tuple #[.bool false, .int .i64 23]) (by simp [results, Try.results22, go_sem]) rfl ⟨rfl, HB2.out.trans (by first | exact below_drewN' _ _ _ | exact (below_drewN' _ _ _).trans (below_drewN' _ _ _))⟩
end Go.Proofs.Ytnanndmpbecdiaa
