import Derived.Deep.CutRange
import Derived.Deep.RegionLaw
import Derived.Test.YtnanndmpbecdiaaVe
namespace Go.Proofs.Ytnanndmpbecdiaa
open Go.RowKit

theorem row_base0 {w : World} {base b2 e s : Nat} {v : Value} {n : Nat} {xs : List Value} (h : w.ownsRow base e s v n xs) (hb : b2 ≤ base) : w.ownsRow b2 e s v n xs := by
  refine ⟨h.1, ?_⟩
  rcases h.2 with h0 | ⟨g, cap, cur, h1, h2, h3, h4⟩
  · exact .inl h0
  · exact .inr ⟨g, cap, cur, h1, Nat.le_trans hb h2, h3, h4⟩
theorem row_lt0 {w : World} {base e s n c m g : Nat} {a : Option Addr} {xs : List Value} (h : w.ownsRow base e s (.slice a n c) m xs) (ha : a = some ⟨g, 0, none⟩) : base ≤ g ∧ g < w.heap.size := by
  subst ha
  rcases h.2 with ⟨e, -⟩ | ⟨g', cp, cur, e, h1, h2, -⟩
  · cases e
  · obtain ⟨rfl, -, -⟩ : g = g' ∧ n = m ∧ c = cp := by simpa using e
    exact ⟨h1, (Array.getElem?_eq_some_iff.1 h2).1⟩
theorem bos_other {w : World} {g n c b : Nat} {l : List Bool} (h : BosAt w (.slice (some ⟨g, 0, none⟩) n c) l) (hne : g ≠ b) (j : Nat) (v : Value) : BosAt (w.setCell ⟨b, j, none⟩ v) (.slice (some ⟨g, 0, none⟩) n c) l := by
  obtain ⟨a, cap, hv, hm, hc⟩ := h
  refine ⟨a, cap, hv, hm, fun hl => ?_⟩
  obtain ⟨b1, off, ha, hx⟩ := hc hl
  have hg : some (⟨g, 0, none⟩ : Addr) = a := by simp at hv; exact hv.1
  obtain rfl : b1 = g := by rw [ha] at hg; simp at hg; exact hg.1.symm
  exact ⟨b1, off, ha, fun i x h => (World.cell?_of_block (a := ⟨b1, off + i, none⟩) (Below.heap_setCell w ⟨b, j, none⟩ v b1 hne)).trans (hx i x h)⟩
/-- A copy of the window in a block of its own. -/
def AcS (wq : World) (t : Int) (L : List Bool) (p : Value) (wc : World) : Prop :=
  ∃ (n uc : Nat) (ua : Option Addr), p = .pointer (some ⟨n, 0, none⟩) ∧ wq.heap.size ≤ n ∧ (∀ g, ua = some ⟨g, 0, none⟩ → g ≠ n) ∧ Cs wc n #[.int .i64 t, .slice ua 16 uc] ∧ wc.ownsRow wq.heap.size 4 1 (.slice ua 16 uc) 16 (L.map Value.bool) ∧ Below wq.heap.size wq wc
theorem AcS.after {wq w3 : World} {t : Int} {L : List Bool} {B uc : Nat} {ua : Option Addr} (h : Below wq.heap.size wq w3) (hu : w3.ownsRow B 4 1 (.slice ua 16 uc) 16 (L.map Value.bool)) (hB : wq.heap.size ≤ B) :
    AcS wq t L (.pointer (some ⟨w3.heap.size, 0, none⟩)) (w3.alloc (.cells #[.int .i64 t, .slice ua 16 uc] 28)) :=
  ⟨_, uc, ua, rfl, h.size, fun g hg => (by have := (row_lt0 hu hg).2; omega), Cs.new w3 _ _ 28 rfl, row_step (row_base0 hu hB) (al _ _), h.alloc h.size _⟩
theorem AcS.before {wq w3 : World} {t : Int} {L : List Bool} {B uc : Nat} {ua : Option Addr} (h : Below wq.heap.size wq w3) (hu : w3.ownsRow B 4 1 (.slice ua 16 uc) 16 (L.map Value.bool)) (hB : wq.heap.size < B) (hc : Cs w3 wq.heap.size #[.int .i64 0, .slice none 0 0]) :
    AcS wq t L (.pointer (some ⟨wq.heap.size, 0, none⟩)) ((w3.setCell ⟨wq.heap.size, 0, none⟩ (.int .i64 t)).setCell ⟨wq.heap.size, 1, none⟩ (.slice ua 16 uc)) :=
  ⟨_, uc, ua, rfl, Nat.le_refl _, fun g hg => (by have := (row_lt0 hu hg).1; omega), Cs.set (Cs.set hc 0 (by simp) (.int .i64 t) rfl) 1 (by simp) (.slice ua 16 uc) rfl, row_base0 (ownsRow_setCell_below (ownsRow_setCell_below hu (a := ⟨wq.heap.size, 0, none⟩) hB _) (a := ⟨wq.heap.size, 1, none⟩) hB _) (Nat.le_of_lt hB), (h.setCell (p := ⟨wq.heap.size, 0, none⟩) (Nat.le_refl _) _).setCell (p := ⟨wq.heap.size, 1, none⟩) (Nat.le_refl _) _⟩
open Go.RowKit

theorem row_cap {w : World} {base e s n c m : Nat} {a : Option Addr} {xs : List Value} (h : w.ownsRow base e s (.slice a n c) m xs) : n ≤ c := by
  rcases h.2 with ⟨e, h0⟩ | ⟨g, cp, cur, e, -, -, h1, -⟩
  · cases e; exact Nat.le_refl _
  · obtain ⟨-, rfl, rfl⟩ : a = some ⟨g, 0, none⟩ ∧ n = m ∧ c = cp := by simpa using e
    exact h1
/-- What stands behind the copy. -/
def AcG (wq : World) (t : Int) (n : Nat) (L : List Bool) (p : Value) (wc : World) : Prop :=
  ∃ (g uc : Nat) (ua : Option Addr), p = .pointer (some ⟨g, 0, none⟩) ∧ wq.heap.size ≤ g ∧ (∀ k, ua = some ⟨k, 0, none⟩ → k ≠ g) ∧ Cs wc g #[.int .i64 t, .slice ua n uc] ∧ wc.ownsRow wq.heap.size 4 1 (.slice ua n uc) n (L.map Value.bool) ∧ Below wq.heap.size wq wc
theorem AcG.after {wq w3 : World} {t : Int} {n : Nat} {L : List Bool} {B uc : Nat} {ua : Option Addr} (h : Below wq.heap.size wq w3) (hu : w3.ownsRow B 4 1 (.slice ua n uc) n (L.map Value.bool)) (hB : wq.heap.size ≤ B) :
    AcG wq t n L (.pointer (some ⟨w3.heap.size, 0, none⟩)) (w3.alloc (.cells #[.int .i64 t, .slice ua n uc] 28)) :=
  ⟨_, uc, ua, rfl, h.size, fun g hg => (by have := (row_lt0 hu hg).2; omega), Cs.new w3 _ _ 28 rfl, row_step (row_base0 hu hB) (al _ _), h.alloc h.size _⟩
theorem AcG.before {wq w3 : World} {t : Int} {n : Nat} {L : List Bool} {B uc : Nat} {ua : Option Addr} (h : Below wq.heap.size wq w3) (hu : w3.ownsRow B 4 1 (.slice ua n uc) n (L.map Value.bool)) (hB : wq.heap.size < B) (hc : Cs w3 wq.heap.size #[.int .i64 0, .slice none 0 0]) :
    AcG wq t n L (.pointer (some ⟨wq.heap.size, 0, none⟩)) ((w3.setCell ⟨wq.heap.size, 0, none⟩ (.int .i64 t)).setCell ⟨wq.heap.size, 1, none⟩ (.slice ua n uc)) :=
  ⟨_, uc, ua, rfl, Nat.le_refl _, fun g hg => (by have := (row_lt0 hu hg).1; omega), Cs.set (Cs.set hc 0 (by simp) (.int .i64 t) rfl) 1 (by simp) (.slice ua n uc) rfl, row_base0 (ownsRow_setCell_below (ownsRow_setCell_below hu (a := ⟨wq.heap.size, 0, none⟩) hB _) (a := ⟨wq.heap.size, 1, none⟩) hB _) (Nat.le_of_lt hB), (h.setCell (p := ⟨wq.heap.size, 0, none⟩) (Nat.le_refl _) _).setCell (p := ⟨wq.heap.size, 1, none⟩) (Nat.le_refl _) _⟩
/-- What 'isWindow' says of a window. -/
def IsW (t : Int) (a : Option Addr) (n c : Nat) (L : List Bool) (r : Bool) : Prop := ∀ W, BosAt W (.slice a n c) L → Calls Try.prog 39 #[.agg #[.int .i64 t, .slice a n c]] W fun e W' => e = .returned (.bool r) ∧ Below W.heap.size W W'
/-- What 'Accept' returns. -/
def AcP (w : World) (t : Int) (L : List Bool) (er : Int) (e : Ending) (w' : World) : Prop :=
  ∃ (aa : Option Addr) (cc : Nat), e = .returned (.tuple #[.agg #[.int .i64 t, .slice aa L.length cc], .int .i64 er]) ∧ L.length ≤ cc ∧ BosAt w' (.slice aa L.length cc) L ∧ Below w.heap.size w w'
theorem bos_row {w : World} {base n : Nat} {t : TypeId} {v : Value} {xs : List Bool} (hn : xs.length = n) (h : w.ownsRow base t 1 v n (xs.map Value.bool)) : BosAt w v xs := by
  subst hn
  exact bos_of_row h
theorem AcP.mk {w W : World} {t er : Int} {L : List Bool} {n uc : Nat} {ua : Option Addr} (hn : L.length = n) (hc : n ≤ uc) (hb : BosAt W (.slice ua n uc) L) (hB : Below w.heap.size w W) : AcP w t L er (.returned (.tuple #[.agg #[.int .i64 t, .slice ua n uc], .int .i64 er])) W := by
  subst hn
  exact ⟨ua, uc, rfl, hc, hb, hB⟩
theorem bos_set {w : World} {base gg n uc d : Nat} {L : List Bool} (hn : L.length = n) (h : w.ownsRow base 4 1 (.slice (some ⟨gg, 0, none⟩) n uc) n (L.map Value.bool)) (hd : d < n) (r : Nat) (hr : r ≠ gg) (x y : Value) :
    BosAt (((w.setCell ⟨gg, d, none⟩ (.bool true)).setCell ⟨r, 0, none⟩ x).setCell ⟨r, 1, none⟩ y) (.slice (some ⟨gg, 0, none⟩) n uc) (L.set d true) := by
  subst hn
  obtain ⟨a, cap, hv, hm, hc⟩ := bos_of_row h
  obtain ⟨b, off, ha, hx⟩ := hc (by intro e; rw [e] at hd; simp at hd)
  obtain ⟨hg, rfl⟩ : some (⟨gg, 0, none⟩ : Addr) = a ∧ uc = cap := by simpa using hv
  obtain ⟨rfl, rfl⟩ : gg = b ∧ 0 = off := by rw [ha] at hg; simpa using hg
  refine ⟨a, uc, by rw [← hg, List.length_set], by rw [List.length_set]; exact hm, fun _ => ⟨gg, 0, hg.symm, fun i z hi => ?_⟩⟩
  have hne : ∀ (k j : Nat), (⟨gg, k, none⟩ : Addr) ≠ ⟨r, j, none⟩ := fun k j e => hr (by injection e with e1; exact e1.symm)
  rw [World.cell?_setCell_other _ _ _ _ (by intro e; exact hne _ _ (by first | exact e | exact e.symm)), World.cell?_setCell_other _ _ _ _ (by intro e; exact hne _ _ (by first | exact e | exact e.symm)), Nat.zero_add]
  by_cases e : d = i
  · subst e
    rw [List.getElem?_set_self hd] at hi
    have h1 := hx d _ (bo_get hd)
    rw [Nat.zero_add] at h1
    rw [World.cell?_setCell_same _ _ _ h1, Option.some.inj hi]
  · rw [List.getElem?_set_ne e] at hi
    have h1 := hx i z hi
    rw [Nat.zero_add] at h1
    rw [World.cell?_setCell_other _ _ _ _ (by intro h2; injection h2 with _ h3; exact e h3), h1]
open Go.RowKit

/-- A well-formed window. -/
def WF (t : Int) (L : List Bool) : Prop := L.length = 16 ∧ -1 ≤ t ∧ t ≤ 1000000 ∧ (0 ≤ t → L.getD 0 false = true) ∧ ∀ j : Nat, t < j → L.getD j false = false
theorem isw_wf {t : Int} {L : List Bool} (a : Option Addr) (c : Nat) (h : WF t L) (hc : 16 ≤ c) : IsW t a 16 c L true := by
  obtain ⟨h1, h2, h3, h4, h5⟩ := h
  intro W hb
  by_cases ht : t = -1
  · subst ht
    have e : L = List.replicate 16 false := by
      apply List.ext_getElem
      · rw [h1, List.length_replicate]
      · intro j g1 g2
        have := h5 j (by omega)
        rw [show L.getD j false = L[j] by simp [g1]] at this
        rw [this, List.getElem_replicate]
    rw [e] at hb
    exact isw_new _ W hb
  · obtain ⟨n, rfl⟩ := Int.eq_ofNat_of_zero_le (show 0 ≤ t by omega)
    obtain ⟨k, rfl⟩ : ∃ k, c = k + 16 := ⟨c - 16, by omega⟩
    have hw : wkB n L = true := by
      unfold wkB
      rw [h4 (by omega), Bool.true_and, Bool.not_eq_true', List.any_eq_false]
      intro x hx
      obtain ⟨j, hj, rfl⟩ := List.getElem_of_mem hx
      rw [List.length_drop] at hj
      rw [List.getElem_drop]
      have h6 := h5 (min (n + 1) 16 + j) (by omega)
      rw [show L.getD (min (n + 1) 16 + j) false = L[min (n + 1) 16 + j]'(by omega) by simp [show min (n + 1) 16 + j < L.length by omega]] at h6
      rw [h6]
      simp
    have h := isw_old n a k L W hb h1 (by omega)
    rw [hw] at h
    exact h
/-- What 'Accept' says of a well-formed window. -/
def accT (t : Int) (_ : List Bool) (s : Int) : Int := if s < 0 ∨ 1000000 < s then t else if t < s then s else t
def accL (t : Int) (L : List Bool) (s : Int) : List Bool := if s < 0 ∨ 1000000 < s then L else if t < s then shL L (s - t).toNat else if 16 ≤ t - s then L else if L.getD (t - s).toNat false = true then L else L.set (t - s).toNat true
def accE (t : Int) (L : List Bool) (s : Int) : Int := if s < 0 ∨ 1000000 < s then 1 else if t < s then 0 else if 16 ≤ t - s then 16 else if L.getD (t - s).toNat false = true then 16 else 0
theorem shL_len (L : List Bool) (d : Nat) : (shL L d).length = 16 := by simp [shL]
theorem shL_get (L : List Bool) (d j : Nat) (hj : j < 16) : (shL L d).getD j false = ((j == 0) || (decide (d ≤ j) && L.getD (j - d) false)) := by
  rw [show (shL L d).getD j false = (shL L d)[j]'(by rw [shL_len]; exact hj) by simp [shL_len, hj]]
  simp [shL, shv, hj]
theorem getD_none {L : List Bool} {j : Nat} (h : L.length ≤ j) : L.getD j false = false := by
  simp [List.getD_eq_getElem?_getD, List.getElem?_eq_none h]
theorem wf_new : WF (-1) (List.replicate 16 false) := by
  refine ⟨by simp, by omega, by omega, fun h => by omega, fun j _ => ?_⟩
  by_cases hj : j < 16
  · rw [List.getD_eq_getElem?_getD, List.getElem?_replicate, if_pos hj]; rfl
  · exact getD_none (by simp; omega)
theorem wf_acc {t : Int} {L : List Bool} (s : Int) (h : WF t L) : WF (accT t L s) (accL t L s) := by
  have h0 := h
  obtain ⟨h1, h2, h3, h4, h5⟩ := h
  unfold accT accL
  by_cases q1 : s < 0 ∨ 1000000 < s
  · rw [if_pos q1, if_pos q1]; exact h0
  · rw [if_neg q1, if_neg q1]
    by_cases q2 : t < s
    · rw [if_pos q2, if_pos q2]
      refine ⟨shL_len _ _, by omega, by omega, fun _ => by rw [shL_get _ _ _ (by omega)]; rfl, fun j hj => ?_⟩
      by_cases hj16 : j < 16
      · rw [shL_get _ _ _ hj16, h5 (j - (s - t).toNat) (by omega)]
        have : (j == 0) = false := by simp; omega
        rw [this]
        simp
      · exact getD_none (by rw [shL_len]; omega)
    · rw [if_neg q2, if_neg q2]
      by_cases q3 : 16 ≤ t - s
      · rw [if_pos q3]; exact h0
      · rw [if_neg q3]
        by_cases q4 : L.getD (t - s).toNat false = true
        · rw [if_pos q4]; exact h0
        · rw [if_neg q4]
          have hg : ∀ j, (L.set (t - s).toNat true).getD j false = if (t - s).toNat = j then true else L.getD j false := fun j => by
            rw [List.getD_eq_getElem?_getD, List.getElem?_set]
            by_cases e : (t - s).toNat = j
            · rw [if_pos e, if_pos (by omega), if_pos e]; rfl
            · rw [if_neg e, if_neg e, List.getD_eq_getElem?_getD]
          refine ⟨by rw [List.length_set]; exact h1, h2, h3, fun hp => ?_, fun j hj => ?_⟩
          · rw [hg, h4 hp]; split <;> rfl
          · rw [hg, if_neg (by omega)]; exact h5 j hj
open Go.RowKit

theorem row_fresh {w : World} {base e s n c m k o : Nat} {a : Option Addr} {xs : List Value} (h : w.ownsRow base e s (.slice a n c) m xs) (ha : a = some ⟨k, o, none⟩) : base ≤ k := by
  subst ha
  rcases h.2 with ⟨e, -⟩ | ⟨g', cp, cur, e, h1, -⟩
  · cases e
  · obtain ⟨⟨rfl, -⟩, -⟩ : (k = g' ∧ o = 0) ∧ _ := by simpa using e
    exact h1
/-- What 'Accept' returns; the slice is new. -/
def AcF (w : World) (t : Int) (L : List Bool) (er : Int) (e : Ending) (w' : World) : Prop :=
  ∃ (aa : Option Addr) (cc : Nat), e = .returned (.tuple #[.agg #[.int .i64 t, .slice aa L.length cc], .int .i64 er]) ∧ L.length ≤ cc ∧ BosAt w' (.slice aa L.length cc) L ∧ Below w.heap.size w w' ∧ ∀ k o, aa = some ⟨k, o, none⟩ → w.heap.size ≤ k
theorem AcF.mk {w W : World} {t er : Int} {L : List Bool} {n uc : Nat} {ua : Option Addr} (hn : L.length = n) (hc : n ≤ uc) (hb : BosAt W (.slice ua n uc) L) (hB : Below w.heap.size w W) (hf : ∀ k o, ua = some ⟨k, o, none⟩ → w.heap.size ≤ k) : AcF w t L er (.returned (.tuple #[.agg #[.int .i64 t, .slice ua n uc], .int .i64 er])) W := by
  subst hn
  exact ⟨ua, uc, rfl, hc, hb, hB, hf⟩
open Go.RowKit

set_option maxRecDepth 100000 in
set_option maxHeartbeats 8000000 in
theorem acf_w0 (t : Int) (a : Option Addr) (n c : Nat) (L : List Bool) (seq : Int) (w : World) (h : BosAt w (.slice a n c) L) (hn : L.length = n) (h9 : n ≤ 100000) (hi : IsW t a n c L false) : Calls Try.prog 34 #[.agg #[.int .i64 t, .slice a n c], .int .i64 seq] w (AcF w t L 1) := by
  have HQ := Lib.hid hn
  have H9 := Lib.hid h9
  replace hi := Lib.hid hi
  have HC0 := Lib.hid ((Cs.new w w.heap.size #[.int .i64 t, .slice a n c] 28 rfl).alloc (.cells #[.int .i64 0, .slice none 0 0] 28))
  have HR0 := Lib.hid (Cs.new (w.alloc (.cells #[.int .i64 t, .slice a n c] 28)) (w.heap.size + 1) #[.int .i64 0, .slice none 0 0] 28 (by simp))
  have HB0 := Lib.hid (al2 (w := w) (o1 := .cells #[.int .i64 t, .slice a n c] 28) (o2 := .cells #[.int .i64 0, .slice none 0 0] 28))
  have HL0 := Lib.hid (h.step HB0.out)
  clear h hn h9
  go_enter Try.func34, Try.ntmps34
  go_upto_region 1 with fail
  generalize ((w.alloc (.cells #[.int .i64 t, .slice a n c] 28)).alloc (.cells #[.int .i64 0, .slice none 0 0] 28)) = wq at *
  go_cut [6] from 8 to 14 (fun p wc => AcG wq t n L p wc)
  case first =>
    have c0 : wq.cell? ⟨w.heap.size, 0, none⟩ = some (.int .i64 t) := HC0.out.c 0 rfl
    have c1 : wq.cell? ⟨w.heap.size, 1, none⟩ = some (.slice a n c) := HC0.out.c 1 rfl
    have d0 : (wq.alloc (.cells #[.int .i64 0, .slice none 0 0] 28)).cell? ⟨w.heap.size, 0, none⟩ = some (.int .i64 t) := (HC0.out.alloc _).c 0 rfl
    have d1 : (wq.alloc (.cells #[.int .i64 0, .slice none 0 0] 28)).cell? ⟨w.heap.size, 1, none⟩ = some (.slice a n c) := (HC0.out.alloc _).c 1 rfl
    go_region_law (go_simp; go_at_call 31; refine (bo_clone (.slice a n c) L _ (HL0.out.step (by first | exact below_drew _ _ | exact (al _ _).trans (below_drew _ _))) (by rw [HQ.out]; exact H9.out)).mono ?_; rintro e w3 ⟨u, rfl, hu, b3⟩; rw [HQ.out] at hu; obtain ⟨ua, uc, rfl⟩ := row_slice hu; have HU := Lib.hid hu; have B3 := Lib.hid b3; have HW3 := Lib.hid (show Below wq.heap.size wq w3 from by first | exact (below_drew _ _).trans b3 | exact keep2 b3 ((al wq _).trans (below_drew _ _))); have m0 : w3.cell? ⟨w.heap.size, 0, none⟩ = some (.int .i64 t) := (HC0.out.step HW3.out).c 0 rfl; have m1 : w3.cell? ⟨w.heap.size, 1, none⟩ = some (.slice a n c) := (HC0.out.step HW3.out).c 1 rfl; have n0 : (w3.alloc (.cells #[.int .i64 0, .slice none 0 0] 28)).cell? ⟨w.heap.size, 0, none⟩ = some (.int .i64 t) := ((HC0.out.step HW3.out).alloc _).c 0 rfl; have n1 : (w3.alloc (.cells #[.int .i64 0, .slice none 0 0] 28)).cell? ⟨w.heap.size, 1, none⟩ = some (.slice a n c) := ((HC0.out.step HW3.out).alloc _).c 1 rfl; (first | (have HQB := Lib.hid (show wq.heap.size < (wq.alloc (.cells #[.int .i64 0, .slice none 0 0] 28)).drew.heap.size by simp); have HU2 := Lib.hid (show w3.ownsRow (wq.alloc (.cells #[.int .i64 0, .slice none 0 0] 28)).drew.heap.size 4 1 (.slice ua n uc) n (L.map Value.bool) from hu); have HQ3 := Lib.hid (show Cs w3 wq.heap.size #[.int .i64 0, .slice none 0 0] from ((Cs.new wq wq.heap.size #[.int .i64 0, .slice none 0 0] 28 rfl).step (below_drew _ _)).step b3); have q0 : w3.cell? ⟨wq.heap.size, 0, none⟩ = some (.int .i64 0) := (((Cs.new wq wq.heap.size #[.int .i64 0, .slice none 0 0] 28 rfl).step (below_drew _ _)).step b3).c 0 rfl; have q1 : w3.cell? ⟨wq.heap.size, 1, none⟩ = some (.slice none 0 0) := (((Cs.new wq wq.heap.size #[.int .i64 0, .slice none 0 0] 28 rfl).step (below_drew _ _)).step b3).c 1 rfl; have g0 := (((Cs.new wq wq.heap.size #[.int .i64 0, .slice none 0 0] 28 rfl).step (below_drew _ _)).step b3).f 0 (by simp); have g1 := (((Cs.new wq wq.heap.size #[.int .i64 0, .slice none 0 0] 28 rfl).step (below_drew _ _)).step b3).f 1 (by simp)) | (have HQA := Lib.hid (show wq.heap.size ≤ wq.drew.heap.size from Nat.le_refl _))); clear hu b3)
    all_goals go_wp2
    all_goals go_meet
    all_goals first | with_reducible exact AcG.after HW3.out HU.out HQA.out | with_reducible exact AcG.before HW3.out HU2.out HQB.out HQ3.out
  case rest =>
    obtain ⟨g, uc, ua, rfl, hg, hne, hcs, hrow, hb⟩ := hcut
    have HNE := Lib.hid hne
    clear hne
    have HC1 := Lib.hid (HC0.out.step hb)
    have HR1 := Lib.hid (HR0.out.step hb)
    have HB1 := Lib.hid (keep2 hb HB0.out)
    have HL1 := Lib.hid (HL0.out.step hb)
    have HN1 := Lib.hid hcs
    have HO1 := Lib.hid hrow
    have HZ := Lib.hid (show w.heap.size + 1 < wq.heap.size from HR0.out.2.2)
    have HNN := Lib.hid hg
    clear hcs hb hrow hg HC0 HR0 HL0 HB0
    have c0 : wc.cell? ⟨w.heap.size, 0, none⟩ = some (.int .i64 t) := HC1.out.c 0 rfl
    have c1 : wc.cell? ⟨w.heap.size, 1, none⟩ = some (.slice a n c) := HC1.out.c 1 rfl
    go_wp2_with fail
    refine (hi.out _ HL1.out).mono ?_
    rintro e w4 ⟨rfl, b4⟩
    have HC4 := Lib.hid (HC1.out.step b4)
    have HR4 := Lib.hid (HR1.out.step b4)
    have HB4 := Lib.hid (keep2 b4 HB1.out)
    have HL4 := Lib.hid (HL1.out.step b4)
    have HN4 := Lib.hid (HN1.out.step b4)
    have HO4 := Lib.hid (row_step HO1.out b4)
    clear b4 c0 c1 HC1 HR1 HB1 HL1 HN1 HO1
    have c0 : w4.cell? ⟨w.heap.size, 0, none⟩ = some (.int .i64 t) := HC4.out.c 0 rfl
    have c1 : w4.cell? ⟨w.heap.size, 1, none⟩ = some (.slice a n c) := HC4.out.c 1 rfl
    have r0 : w4.cell? ⟨w.heap.size + 1, 0, none⟩ = some (.int .i64 0) := HR4.out.c 0 rfl
    have r1 : w4.cell? ⟨w.heap.size + 1, 1, none⟩ = some (.slice none 0 0) := HR4.out.c 1 rfl
    have p0 := HR4.out.f 0 (by simp)
    have p1 := HR4.out.f 1 (by simp)
    have n0 : w4.cell? ⟨g, 0, none⟩ = some (.int .i64 t) := HN4.out.c 0 rfl
    have n1 : w4.cell? ⟨g, 1, none⟩ = some (.slice ua n uc) := HN4.out.c 1 rfl
    have hng : ¬ (g = w.heap.size + 1) := by have := HNN.out; have := HZ.out; omega
    have hgn : ¬ (w.heap.size + 1 = g) := fun e => hng e.symm
    go_wp2_with fail
    refine (fun (h : ∀ W : World, Cs W (w.heap.size + 1) #[.int .i64 t, .slice ua n uc] → BosAt W (.slice ua n uc) L → Below w.heap.size w W → bodyPost Try.prog Try.f34 _ Exit.ret _ W) => h _ (Cs.set (Cs.set HR4.out 0 (by simp) (.int .i64 t) rfl) 1 (by simp) (.slice ua n uc) (vs' := #[.int .i64 t, .slice ua n uc]) rfl) (bos_row HQ.out (ownsRow_setCell_below (ownsRow_setCell_below HO4.out (a := ⟨w.heap.size + 1, 0, none⟩) HZ.out _) (a := ⟨w.heap.size + 1, 1, none⟩) HZ.out _)) ((HB4.out.setCell (p := ⟨w.heap.size + 1, 0, none⟩) (Nat.le_succ _) _).setCell (p := ⟨w.heap.size + 1, 1, none⟩) (Nat.le_succ _) _)) ?_
    intro W hC hO hB
    have k0 : W.cell? ⟨w.heap.size + 1, 0, none⟩ = some (.int .i64 t) := hC.c 0 rfl
    have k1 : W.cell? ⟨w.heap.size + 1, 1, none⟩ = some (.slice ua n uc) := hC.c 1 rfl
    exact bodyPost_ret (v := .tuple #[.agg #[.int .i64 t, .slice ua n uc], .int .i64 1]) (by simp [results, Try.results34, go_sem, k0, k1]) rfl (AcF.mk HQ.out (row_cap HO4.out) hO hB (fun k o e => Nat.le_trans (by have := HZ.out; omega) (row_fresh HO4.out e)))
set_option maxRecDepth 100000 in
set_option maxHeartbeats 8000000 in
theorem acf_neg (t : Int) (a : Option Addr) (n c : Nat) (L : List Bool) (seq : Int) (w : World) (h : BosAt w (.slice a n c) L) (hn : L.length = n) (h9 : n ≤ 100000) (hi : IsW t a n c L true) (hs : seq < 0) : Calls Try.prog 34 #[.agg #[.int .i64 t, .slice a n c], .int .i64 seq] w (AcF w t L 1) := by
  have HQ := Lib.hid hn
  have H9 := Lib.hid h9
  replace hi := Lib.hid hi
  replace hs := Lib.hid hs
  have HC0 := Lib.hid ((Cs.new w w.heap.size #[.int .i64 t, .slice a n c] 28 rfl).alloc (.cells #[.int .i64 0, .slice none 0 0] 28))
  have HR0 := Lib.hid (Cs.new (w.alloc (.cells #[.int .i64 t, .slice a n c] 28)) (w.heap.size + 1) #[.int .i64 0, .slice none 0 0] 28 (by simp))
  have HB0 := Lib.hid (al2 (w := w) (o1 := .cells #[.int .i64 t, .slice a n c] 28) (o2 := .cells #[.int .i64 0, .slice none 0 0] 28))
  have HL0 := Lib.hid (h.step HB0.out)
  clear h hn h9
  go_enter Try.func34, Try.ntmps34
  go_upto_region 1 with fail
  generalize ((w.alloc (.cells #[.int .i64 t, .slice a n c] 28)).alloc (.cells #[.int .i64 0, .slice none 0 0] 28)) = wq at *
  go_cut [6] from 8 to 14 (fun p wc => AcG wq t n L p wc)
  case first =>
    have c0 : wq.cell? ⟨w.heap.size, 0, none⟩ = some (.int .i64 t) := HC0.out.c 0 rfl
    have c1 : wq.cell? ⟨w.heap.size, 1, none⟩ = some (.slice a n c) := HC0.out.c 1 rfl
    have d0 : (wq.alloc (.cells #[.int .i64 0, .slice none 0 0] 28)).cell? ⟨w.heap.size, 0, none⟩ = some (.int .i64 t) := (HC0.out.alloc _).c 0 rfl
    have d1 : (wq.alloc (.cells #[.int .i64 0, .slice none 0 0] 28)).cell? ⟨w.heap.size, 1, none⟩ = some (.slice a n c) := (HC0.out.alloc _).c 1 rfl
    go_region_law (go_simp; go_at_call 31; refine (bo_clone (.slice a n c) L _ (HL0.out.step (by first | exact below_drew _ _ | exact (al _ _).trans (below_drew _ _))) (by rw [HQ.out]; exact H9.out)).mono ?_; rintro e w3 ⟨u, rfl, hu, b3⟩; rw [HQ.out] at hu; obtain ⟨ua, uc, rfl⟩ := row_slice hu; have HU := Lib.hid hu; have B3 := Lib.hid b3; have HW3 := Lib.hid (show Below wq.heap.size wq w3 from by first | exact (below_drew _ _).trans b3 | exact keep2 b3 ((al wq _).trans (below_drew _ _))); have m0 : w3.cell? ⟨w.heap.size, 0, none⟩ = some (.int .i64 t) := (HC0.out.step HW3.out).c 0 rfl; have m1 : w3.cell? ⟨w.heap.size, 1, none⟩ = some (.slice a n c) := (HC0.out.step HW3.out).c 1 rfl; have n0 : (w3.alloc (.cells #[.int .i64 0, .slice none 0 0] 28)).cell? ⟨w.heap.size, 0, none⟩ = some (.int .i64 t) := ((HC0.out.step HW3.out).alloc _).c 0 rfl; have n1 : (w3.alloc (.cells #[.int .i64 0, .slice none 0 0] 28)).cell? ⟨w.heap.size, 1, none⟩ = some (.slice a n c) := ((HC0.out.step HW3.out).alloc _).c 1 rfl; (first | (have HQB := Lib.hid (show wq.heap.size < (wq.alloc (.cells #[.int .i64 0, .slice none 0 0] 28)).drew.heap.size by simp); have HU2 := Lib.hid (show w3.ownsRow (wq.alloc (.cells #[.int .i64 0, .slice none 0 0] 28)).drew.heap.size 4 1 (.slice ua n uc) n (L.map Value.bool) from hu); have HQ3 := Lib.hid (show Cs w3 wq.heap.size #[.int .i64 0, .slice none 0 0] from ((Cs.new wq wq.heap.size #[.int .i64 0, .slice none 0 0] 28 rfl).step (below_drew _ _)).step b3); have q0 : w3.cell? ⟨wq.heap.size, 0, none⟩ = some (.int .i64 0) := (((Cs.new wq wq.heap.size #[.int .i64 0, .slice none 0 0] 28 rfl).step (below_drew _ _)).step b3).c 0 rfl; have q1 : w3.cell? ⟨wq.heap.size, 1, none⟩ = some (.slice none 0 0) := (((Cs.new wq wq.heap.size #[.int .i64 0, .slice none 0 0] 28 rfl).step (below_drew _ _)).step b3).c 1 rfl; have g0 := (((Cs.new wq wq.heap.size #[.int .i64 0, .slice none 0 0] 28 rfl).step (below_drew _ _)).step b3).f 0 (by simp); have g1 := (((Cs.new wq wq.heap.size #[.int .i64 0, .slice none 0 0] 28 rfl).step (below_drew _ _)).step b3).f 1 (by simp)) | (have HQA := Lib.hid (show wq.heap.size ≤ wq.drew.heap.size from Nat.le_refl _))); clear hu b3)
    all_goals go_wp2
    all_goals go_meet
    all_goals first | with_reducible exact AcG.after HW3.out HU.out HQA.out | with_reducible exact AcG.before HW3.out HU2.out HQB.out HQ3.out
  case rest =>
    obtain ⟨g, uc, ua, rfl, hg, hne, hcs, hrow, hb⟩ := hcut
    have HNE := Lib.hid hne
    clear hne
    have HC1 := Lib.hid (HC0.out.step hb)
    have HR1 := Lib.hid (HR0.out.step hb)
    have HB1 := Lib.hid (keep2 hb HB0.out)
    have HL1 := Lib.hid (HL0.out.step hb)
    have HN1 := Lib.hid hcs
    have HO1 := Lib.hid hrow
    have HZ := Lib.hid (show w.heap.size + 1 < wq.heap.size from HR0.out.2.2)
    have HNN := Lib.hid hg
    clear hcs hb hrow hg HC0 HR0 HL0 HB0
    have c0 : wc.cell? ⟨w.heap.size, 0, none⟩ = some (.int .i64 t) := HC1.out.c 0 rfl
    have c1 : wc.cell? ⟨w.heap.size, 1, none⟩ = some (.slice a n c) := HC1.out.c 1 rfl
    go_wp2_with fail
    refine (hi.out _ HL1.out).mono ?_
    rintro e w4 ⟨rfl, b4⟩
    have HC4 := Lib.hid (HC1.out.step b4)
    have HR4 := Lib.hid (HR1.out.step b4)
    have HB4 := Lib.hid (keep2 b4 HB1.out)
    have HL4 := Lib.hid (HL1.out.step b4)
    have HN4 := Lib.hid (HN1.out.step b4)
    have HO4 := Lib.hid (row_step HO1.out b4)
    clear b4 c0 c1 HC1 HR1 HB1 HL1 HN1 HO1
    have c0 : w4.cell? ⟨w.heap.size, 0, none⟩ = some (.int .i64 t) := HC4.out.c 0 rfl
    have c1 : w4.cell? ⟨w.heap.size, 1, none⟩ = some (.slice a n c) := HC4.out.c 1 rfl
    have d0 : decide (seq < 0) = true := by have := hs.out; simp; omega
    have r0 : w4.cell? ⟨w.heap.size + 1, 0, none⟩ = some (.int .i64 0) := HR4.out.c 0 rfl
    have r1 : w4.cell? ⟨w.heap.size + 1, 1, none⟩ = some (.slice none 0 0) := HR4.out.c 1 rfl
    have p0 := HR4.out.f 0 (by simp)
    have p1 := HR4.out.f 1 (by simp)
    have n0 : w4.cell? ⟨g, 0, none⟩ = some (.int .i64 t) := HN4.out.c 0 rfl
    have n1 : w4.cell? ⟨g, 1, none⟩ = some (.slice ua n uc) := HN4.out.c 1 rfl
    have hng : ¬ (g = w.heap.size + 1) := by have := HNN.out; have := HZ.out; omega
    have hgn : ¬ (w.heap.size + 1 = g) := fun e => hng e.symm
    go_wp2_with fail
    refine (fun (h : ∀ W : World, Cs W (w.heap.size + 1) #[.int .i64 t, .slice ua n uc] → BosAt W (.slice ua n uc) L → Below w.heap.size w W → bodyPost Try.prog Try.f34 _ Exit.ret _ W) => h _ (Cs.set (Cs.set HR4.out 0 (by simp) (.int .i64 t) rfl) 1 (by simp) (.slice ua n uc) (vs' := #[.int .i64 t, .slice ua n uc]) rfl) (bos_row HQ.out (ownsRow_setCell_below (ownsRow_setCell_below HO4.out (a := ⟨w.heap.size + 1, 0, none⟩) HZ.out _) (a := ⟨w.heap.size + 1, 1, none⟩) HZ.out _)) ((HB4.out.setCell (p := ⟨w.heap.size + 1, 0, none⟩) (Nat.le_succ _) _).setCell (p := ⟨w.heap.size + 1, 1, none⟩) (Nat.le_succ _) _)) ?_
    intro W hC hO hB
    have k0 : W.cell? ⟨w.heap.size + 1, 0, none⟩ = some (.int .i64 t) := hC.c 0 rfl
    have k1 : W.cell? ⟨w.heap.size + 1, 1, none⟩ = some (.slice ua n uc) := hC.c 1 rfl
    exact bodyPost_ret (v := .tuple #[.agg #[.int .i64 t, .slice ua n uc], .int .i64 1]) (by simp [results, Try.results34, go_sem, k0, k1]) rfl (AcF.mk HQ.out (row_cap HO4.out) hO hB (fun k o e => Nat.le_trans (by have := HZ.out; omega) (row_fresh HO4.out e)))
set_option maxRecDepth 100000 in
set_option maxHeartbeats 8000000 in
theorem acf_big (t : Int) (a : Option Addr) (n c : Nat) (L : List Bool) (seq : Int) (w : World) (h : BosAt w (.slice a n c) L) (hn : L.length = n) (h9 : n ≤ 100000) (hi : IsW t a n c L true) (hs : 1000000 < seq) : Calls Try.prog 34 #[.agg #[.int .i64 t, .slice a n c], .int .i64 seq] w (AcF w t L 1) := by
  have HQ := Lib.hid hn
  have H9 := Lib.hid h9
  replace hi := Lib.hid hi
  replace hs := Lib.hid hs
  have HC0 := Lib.hid ((Cs.new w w.heap.size #[.int .i64 t, .slice a n c] 28 rfl).alloc (.cells #[.int .i64 0, .slice none 0 0] 28))
  have HR0 := Lib.hid (Cs.new (w.alloc (.cells #[.int .i64 t, .slice a n c] 28)) (w.heap.size + 1) #[.int .i64 0, .slice none 0 0] 28 (by simp))
  have HB0 := Lib.hid (al2 (w := w) (o1 := .cells #[.int .i64 t, .slice a n c] 28) (o2 := .cells #[.int .i64 0, .slice none 0 0] 28))
  have HL0 := Lib.hid (h.step HB0.out)
  clear h hn h9
  go_enter Try.func34, Try.ntmps34
  go_upto_region 1 with fail
  generalize ((w.alloc (.cells #[.int .i64 t, .slice a n c] 28)).alloc (.cells #[.int .i64 0, .slice none 0 0] 28)) = wq at *
  go_cut [6] from 8 to 14 (fun p wc => AcG wq t n L p wc)
  case first =>
    have c0 : wq.cell? ⟨w.heap.size, 0, none⟩ = some (.int .i64 t) := HC0.out.c 0 rfl
    have c1 : wq.cell? ⟨w.heap.size, 1, none⟩ = some (.slice a n c) := HC0.out.c 1 rfl
    have d0 : (wq.alloc (.cells #[.int .i64 0, .slice none 0 0] 28)).cell? ⟨w.heap.size, 0, none⟩ = some (.int .i64 t) := (HC0.out.alloc _).c 0 rfl
    have d1 : (wq.alloc (.cells #[.int .i64 0, .slice none 0 0] 28)).cell? ⟨w.heap.size, 1, none⟩ = some (.slice a n c) := (HC0.out.alloc _).c 1 rfl
    go_region_law (go_simp; go_at_call 31; refine (bo_clone (.slice a n c) L _ (HL0.out.step (by first | exact below_drew _ _ | exact (al _ _).trans (below_drew _ _))) (by rw [HQ.out]; exact H9.out)).mono ?_; rintro e w3 ⟨u, rfl, hu, b3⟩; rw [HQ.out] at hu; obtain ⟨ua, uc, rfl⟩ := row_slice hu; have HU := Lib.hid hu; have B3 := Lib.hid b3; have HW3 := Lib.hid (show Below wq.heap.size wq w3 from by first | exact (below_drew _ _).trans b3 | exact keep2 b3 ((al wq _).trans (below_drew _ _))); have m0 : w3.cell? ⟨w.heap.size, 0, none⟩ = some (.int .i64 t) := (HC0.out.step HW3.out).c 0 rfl; have m1 : w3.cell? ⟨w.heap.size, 1, none⟩ = some (.slice a n c) := (HC0.out.step HW3.out).c 1 rfl; have n0 : (w3.alloc (.cells #[.int .i64 0, .slice none 0 0] 28)).cell? ⟨w.heap.size, 0, none⟩ = some (.int .i64 t) := ((HC0.out.step HW3.out).alloc _).c 0 rfl; have n1 : (w3.alloc (.cells #[.int .i64 0, .slice none 0 0] 28)).cell? ⟨w.heap.size, 1, none⟩ = some (.slice a n c) := ((HC0.out.step HW3.out).alloc _).c 1 rfl; (first | (have HQB := Lib.hid (show wq.heap.size < (wq.alloc (.cells #[.int .i64 0, .slice none 0 0] 28)).drew.heap.size by simp); have HU2 := Lib.hid (show w3.ownsRow (wq.alloc (.cells #[.int .i64 0, .slice none 0 0] 28)).drew.heap.size 4 1 (.slice ua n uc) n (L.map Value.bool) from hu); have HQ3 := Lib.hid (show Cs w3 wq.heap.size #[.int .i64 0, .slice none 0 0] from ((Cs.new wq wq.heap.size #[.int .i64 0, .slice none 0 0] 28 rfl).step (below_drew _ _)).step b3); have q0 : w3.cell? ⟨wq.heap.size, 0, none⟩ = some (.int .i64 0) := (((Cs.new wq wq.heap.size #[.int .i64 0, .slice none 0 0] 28 rfl).step (below_drew _ _)).step b3).c 0 rfl; have q1 : w3.cell? ⟨wq.heap.size, 1, none⟩ = some (.slice none 0 0) := (((Cs.new wq wq.heap.size #[.int .i64 0, .slice none 0 0] 28 rfl).step (below_drew _ _)).step b3).c 1 rfl; have g0 := (((Cs.new wq wq.heap.size #[.int .i64 0, .slice none 0 0] 28 rfl).step (below_drew _ _)).step b3).f 0 (by simp); have g1 := (((Cs.new wq wq.heap.size #[.int .i64 0, .slice none 0 0] 28 rfl).step (below_drew _ _)).step b3).f 1 (by simp)) | (have HQA := Lib.hid (show wq.heap.size ≤ wq.drew.heap.size from Nat.le_refl _))); clear hu b3)
    all_goals go_wp2
    all_goals go_meet
    all_goals first | with_reducible exact AcG.after HW3.out HU.out HQA.out | with_reducible exact AcG.before HW3.out HU2.out HQB.out HQ3.out
  case rest =>
    obtain ⟨g, uc, ua, rfl, hg, hne, hcs, hrow, hb⟩ := hcut
    have HNE := Lib.hid hne
    clear hne
    have HC1 := Lib.hid (HC0.out.step hb)
    have HR1 := Lib.hid (HR0.out.step hb)
    have HB1 := Lib.hid (keep2 hb HB0.out)
    have HL1 := Lib.hid (HL0.out.step hb)
    have HN1 := Lib.hid hcs
    have HO1 := Lib.hid hrow
    have HZ := Lib.hid (show w.heap.size + 1 < wq.heap.size from HR0.out.2.2)
    have HNN := Lib.hid hg
    clear hcs hb hrow hg HC0 HR0 HL0 HB0
    have c0 : wc.cell? ⟨w.heap.size, 0, none⟩ = some (.int .i64 t) := HC1.out.c 0 rfl
    have c1 : wc.cell? ⟨w.heap.size, 1, none⟩ = some (.slice a n c) := HC1.out.c 1 rfl
    go_wp2_with fail
    refine (hi.out _ HL1.out).mono ?_
    rintro e w4 ⟨rfl, b4⟩
    have HC4 := Lib.hid (HC1.out.step b4)
    have HR4 := Lib.hid (HR1.out.step b4)
    have HB4 := Lib.hid (keep2 b4 HB1.out)
    have HL4 := Lib.hid (HL1.out.step b4)
    have HN4 := Lib.hid (HN1.out.step b4)
    have HO4 := Lib.hid (row_step HO1.out b4)
    clear b4 c0 c1 HC1 HR1 HB1 HL1 HN1 HO1
    have c0 : w4.cell? ⟨w.heap.size, 0, none⟩ = some (.int .i64 t) := HC4.out.c 0 rfl
    have c1 : w4.cell? ⟨w.heap.size, 1, none⟩ = some (.slice a n c) := HC4.out.c 1 rfl
    have d0 : decide (seq < 0) = false := by have := hs.out; simp; omega
    have d1 : decide (1000000 < seq) = true := by have := hs.out; simp; omega
    have d2 : decide (seq > 1000000) = true := by have := hs.out; simp; omega
    have r0 : w4.cell? ⟨w.heap.size + 1, 0, none⟩ = some (.int .i64 0) := HR4.out.c 0 rfl
    have r1 : w4.cell? ⟨w.heap.size + 1, 1, none⟩ = some (.slice none 0 0) := HR4.out.c 1 rfl
    have p0 := HR4.out.f 0 (by simp)
    have p1 := HR4.out.f 1 (by simp)
    have n0 : w4.cell? ⟨g, 0, none⟩ = some (.int .i64 t) := HN4.out.c 0 rfl
    have n1 : w4.cell? ⟨g, 1, none⟩ = some (.slice ua n uc) := HN4.out.c 1 rfl
    have hng : ¬ (g = w.heap.size + 1) := by have := HNN.out; have := HZ.out; omega
    have hgn : ¬ (w.heap.size + 1 = g) := fun e => hng e.symm
    go_wp2_with fail
    refine (fun (h : ∀ W : World, Cs W (w.heap.size + 1) #[.int .i64 t, .slice ua n uc] → BosAt W (.slice ua n uc) L → Below w.heap.size w W → bodyPost Try.prog Try.f34 _ Exit.ret _ W) => h _ (Cs.set (Cs.set HR4.out 0 (by simp) (.int .i64 t) rfl) 1 (by simp) (.slice ua n uc) (vs' := #[.int .i64 t, .slice ua n uc]) rfl) (bos_row HQ.out (ownsRow_setCell_below (ownsRow_setCell_below HO4.out (a := ⟨w.heap.size + 1, 0, none⟩) HZ.out _) (a := ⟨w.heap.size + 1, 1, none⟩) HZ.out _)) ((HB4.out.setCell (p := ⟨w.heap.size + 1, 0, none⟩) (Nat.le_succ _) _).setCell (p := ⟨w.heap.size + 1, 1, none⟩) (Nat.le_succ _) _)) ?_
    intro W hC hO hB
    have k0 : W.cell? ⟨w.heap.size + 1, 0, none⟩ = some (.int .i64 t) := hC.c 0 rfl
    have k1 : W.cell? ⟨w.heap.size + 1, 1, none⟩ = some (.slice ua n uc) := hC.c 1 rfl
    exact bodyPost_ret (v := .tuple #[.agg #[.int .i64 t, .slice ua n uc], .int .i64 1]) (by simp [results, Try.results34, go_sem, k0, k1]) rfl (AcF.mk HQ.out (row_cap HO4.out) hO hB (fun k o e => Nat.le_trans (by have := HZ.out; omega) (row_fresh HO4.out e)))
open Go.RowKit

set_option maxRecDepth 100000 in
set_option maxHeartbeats 8000000 in
theorem acf_far (t : Int) (a : Option Addr) (n c : Nat) (L : List Bool) (seq : Int) (w : World) (h : BosAt w (.slice a n c) L) (hn : L.length = n) (h9 : n ≤ 100000) (hi : IsW t a n c L true) (hs : 0 ≤ seq ∧ seq ≤ t) (ht : t ≤ 1000000) (hf : 16 ≤ t - seq) : Calls Try.prog 34 #[.agg #[.int .i64 t, .slice a n c], .int .i64 seq] w (AcF w t L 16) := by
  have HQ := Lib.hid hn
  have H9 := Lib.hid h9
  replace hi := Lib.hid hi
  replace hs := Lib.hid hs
  replace ht := Lib.hid ht
  replace hf := Lib.hid hf
  have HC0 := Lib.hid ((Cs.new w w.heap.size #[.int .i64 t, .slice a n c] 28 rfl).alloc (.cells #[.int .i64 0, .slice none 0 0] 28))
  have HR0 := Lib.hid (Cs.new (w.alloc (.cells #[.int .i64 t, .slice a n c] 28)) (w.heap.size + 1) #[.int .i64 0, .slice none 0 0] 28 (by simp))
  have HB0 := Lib.hid (al2 (w := w) (o1 := .cells #[.int .i64 t, .slice a n c] 28) (o2 := .cells #[.int .i64 0, .slice none 0 0] 28))
  have HL0 := Lib.hid (h.step HB0.out)
  clear h hn h9
  go_enter Try.func34, Try.ntmps34
  go_upto_region 1 with fail
  generalize ((w.alloc (.cells #[.int .i64 t, .slice a n c] 28)).alloc (.cells #[.int .i64 0, .slice none 0 0] 28)) = wq at *
  go_cut [6] from 8 to 14 (fun p wc => AcG wq t n L p wc)
  case first =>
    have c0 : wq.cell? ⟨w.heap.size, 0, none⟩ = some (.int .i64 t) := HC0.out.c 0 rfl
    have c1 : wq.cell? ⟨w.heap.size, 1, none⟩ = some (.slice a n c) := HC0.out.c 1 rfl
    have d0 : (wq.alloc (.cells #[.int .i64 0, .slice none 0 0] 28)).cell? ⟨w.heap.size, 0, none⟩ = some (.int .i64 t) := (HC0.out.alloc _).c 0 rfl
    have d1 : (wq.alloc (.cells #[.int .i64 0, .slice none 0 0] 28)).cell? ⟨w.heap.size, 1, none⟩ = some (.slice a n c) := (HC0.out.alloc _).c 1 rfl
    go_region_law (go_simp; go_at_call 31; refine (bo_clone (.slice a n c) L _ (HL0.out.step (by first | exact below_drew _ _ | exact (al _ _).trans (below_drew _ _))) (by rw [HQ.out]; exact H9.out)).mono ?_; rintro e w3 ⟨u, rfl, hu, b3⟩; rw [HQ.out] at hu; obtain ⟨ua, uc, rfl⟩ := row_slice hu; have HU := Lib.hid hu; have B3 := Lib.hid b3; have HW3 := Lib.hid (show Below wq.heap.size wq w3 from by first | exact (below_drew _ _).trans b3 | exact keep2 b3 ((al wq _).trans (below_drew _ _))); have m0 : w3.cell? ⟨w.heap.size, 0, none⟩ = some (.int .i64 t) := (HC0.out.step HW3.out).c 0 rfl; have m1 : w3.cell? ⟨w.heap.size, 1, none⟩ = some (.slice a n c) := (HC0.out.step HW3.out).c 1 rfl; have n0 : (w3.alloc (.cells #[.int .i64 0, .slice none 0 0] 28)).cell? ⟨w.heap.size, 0, none⟩ = some (.int .i64 t) := ((HC0.out.step HW3.out).alloc _).c 0 rfl; have n1 : (w3.alloc (.cells #[.int .i64 0, .slice none 0 0] 28)).cell? ⟨w.heap.size, 1, none⟩ = some (.slice a n c) := ((HC0.out.step HW3.out).alloc _).c 1 rfl; (first | (have HQB := Lib.hid (show wq.heap.size < (wq.alloc (.cells #[.int .i64 0, .slice none 0 0] 28)).drew.heap.size by simp); have HU2 := Lib.hid (show w3.ownsRow (wq.alloc (.cells #[.int .i64 0, .slice none 0 0] 28)).drew.heap.size 4 1 (.slice ua n uc) n (L.map Value.bool) from hu); have HQ3 := Lib.hid (show Cs w3 wq.heap.size #[.int .i64 0, .slice none 0 0] from ((Cs.new wq wq.heap.size #[.int .i64 0, .slice none 0 0] 28 rfl).step (below_drew _ _)).step b3); have q0 : w3.cell? ⟨wq.heap.size, 0, none⟩ = some (.int .i64 0) := (((Cs.new wq wq.heap.size #[.int .i64 0, .slice none 0 0] 28 rfl).step (below_drew _ _)).step b3).c 0 rfl; have q1 : w3.cell? ⟨wq.heap.size, 1, none⟩ = some (.slice none 0 0) := (((Cs.new wq wq.heap.size #[.int .i64 0, .slice none 0 0] 28 rfl).step (below_drew _ _)).step b3).c 1 rfl; have g0 := (((Cs.new wq wq.heap.size #[.int .i64 0, .slice none 0 0] 28 rfl).step (below_drew _ _)).step b3).f 0 (by simp); have g1 := (((Cs.new wq wq.heap.size #[.int .i64 0, .slice none 0 0] 28 rfl).step (below_drew _ _)).step b3).f 1 (by simp)) | (have HQA := Lib.hid (show wq.heap.size ≤ wq.drew.heap.size from Nat.le_refl _))); clear hu b3)
    all_goals go_wp2
    all_goals go_meet
    all_goals first | with_reducible exact AcG.after HW3.out HU.out HQA.out | with_reducible exact AcG.before HW3.out HU2.out HQB.out HQ3.out
  case rest =>
    obtain ⟨g, uc, ua, rfl, hg, hne, hcs, hrow, hb⟩ := hcut
    have HNE := Lib.hid hne
    clear hne
    have HC1 := Lib.hid (HC0.out.step hb)
    have HR1 := Lib.hid (HR0.out.step hb)
    have HB1 := Lib.hid (keep2 hb HB0.out)
    have HL1 := Lib.hid (HL0.out.step hb)
    have HN1 := Lib.hid hcs
    have HO1 := Lib.hid hrow
    have HZ := Lib.hid (show w.heap.size + 1 < wq.heap.size from HR0.out.2.2)
    have HNN := Lib.hid hg
    clear hcs hb hrow hg HC0 HR0 HL0 HB0
    have c0 : wc.cell? ⟨w.heap.size, 0, none⟩ = some (.int .i64 t) := HC1.out.c 0 rfl
    have c1 : wc.cell? ⟨w.heap.size, 1, none⟩ = some (.slice a n c) := HC1.out.c 1 rfl
    go_wp2_with fail
    refine (hi.out _ HL1.out).mono ?_
    rintro e w4 ⟨rfl, b4⟩
    have HC4 := Lib.hid (HC1.out.step b4)
    have HR4 := Lib.hid (HR1.out.step b4)
    have HB4 := Lib.hid (keep2 b4 HB1.out)
    have HL4 := Lib.hid (HL1.out.step b4)
    have HN4 := Lib.hid (HN1.out.step b4)
    have HO4 := Lib.hid (row_step HO1.out b4)
    clear b4 c0 c1 HC1 HR1 HB1 HL1 HN1 HO1
    have c0 : w4.cell? ⟨w.heap.size, 0, none⟩ = some (.int .i64 t) := HC4.out.c 0 rfl
    have c1 : w4.cell? ⟨w.heap.size, 1, none⟩ = some (.slice a n c) := HC4.out.c 1 rfl
    have d0 : decide (seq < 0) = false := by have := hs.out; simp; omega
    have d1 : decide (1000000 < seq) = false := by have := hs.out; have := ht.out; simp; omega
    have d2 : decide (t < seq) = false := by have := hs.out; simp; omega
    have d2b : decide (seq > t) = false := by have := hs.out; simp; omega
    have hw : wrap64 (t - seq) = t - seq := IntWalk.wrap64_in _ (by have := hs.out; have := ht.out; omega)
    have d3 : decide ((16 : Int) ≤ t - seq) = true := by have := hf.out; simp; omega
    have d4 : decide (t - seq ≥ (16 : Int)) = true := by have := hf.out; simp; omega
    have r0 : w4.cell? ⟨w.heap.size + 1, 0, none⟩ = some (.int .i64 0) := HR4.out.c 0 rfl
    have r1 : w4.cell? ⟨w.heap.size + 1, 1, none⟩ = some (.slice none 0 0) := HR4.out.c 1 rfl
    have p0 := HR4.out.f 0 (by simp)
    have p1 := HR4.out.f 1 (by simp)
    have n0 : w4.cell? ⟨g, 0, none⟩ = some (.int .i64 t) := HN4.out.c 0 rfl
    have n1 : w4.cell? ⟨g, 1, none⟩ = some (.slice ua n uc) := HN4.out.c 1 rfl
    have hng : ¬ (g = w.heap.size + 1) := by have := HNN.out; have := HZ.out; omega
    have hgn : ¬ (w.heap.size + 1 = g) := fun e => hng e.symm
    go_wp2_with fail
    refine (fun (h : ∀ W : World, Cs W (w.heap.size + 1) #[.int .i64 t, .slice ua n uc] → BosAt W (.slice ua n uc) L → Below w.heap.size w W → bodyPost Try.prog Try.f34 _ Exit.ret _ W) => h _ (Cs.set (Cs.set HR4.out 0 (by simp) (.int .i64 t) rfl) 1 (by simp) (.slice ua n uc) (vs' := #[.int .i64 t, .slice ua n uc]) rfl) (bos_row HQ.out (ownsRow_setCell_below (ownsRow_setCell_below HO4.out (a := ⟨w.heap.size + 1, 0, none⟩) HZ.out _) (a := ⟨w.heap.size + 1, 1, none⟩) HZ.out _)) ((HB4.out.setCell (p := ⟨w.heap.size + 1, 0, none⟩) (Nat.le_succ _) _).setCell (p := ⟨w.heap.size + 1, 1, none⟩) (Nat.le_succ _) _)) ?_
    intro W hC hO hB
    have k0 : W.cell? ⟨w.heap.size + 1, 0, none⟩ = some (.int .i64 t) := hC.c 0 rfl
    have k1 : W.cell? ⟨w.heap.size + 1, 1, none⟩ = some (.slice ua n uc) := hC.c 1 rfl
    exact bodyPost_ret (v := .tuple #[.agg #[.int .i64 t, .slice ua n uc], .int .i64 16]) (by simp [results, Try.results34, go_sem, k0, k1]) rfl (AcF.mk HQ.out (row_cap HO4.out) hO hB (fun k o e => Nat.le_trans (by have := HZ.out; omega) (row_fresh HO4.out e)))
set_option maxRecDepth 100000 in
set_option maxHeartbeats 8000000 in
theorem acf_seen (t : Int) (a : Option Addr) (n c : Nat) (L : List Bool) (seq : Int) (w : World) (h : BosAt w (.slice a n c) L) (hn : L.length = n) (h9 : n ≤ 100000) (hi : IsW t a n c L true) (hs : 0 ≤ seq ∧ seq ≤ t) (ht : t ≤ 1000000) (d : Nat) (hd : t - seq = d ∧ d < 16 ∧ n = 16) (hv : L.getD d false = true) : Calls Try.prog 34 #[.agg #[.int .i64 t, .slice a n c], .int .i64 seq] w (AcF w t L 16) := by
  have HQ := Lib.hid hn
  have H9 := Lib.hid h9
  replace hi := Lib.hid hi
  replace hs := Lib.hid hs
  replace ht := Lib.hid ht
  replace hd := Lib.hid hd
  replace hv := Lib.hid hv
  have HC0 := Lib.hid ((Cs.new w w.heap.size #[.int .i64 t, .slice a n c] 28 rfl).alloc (.cells #[.int .i64 0, .slice none 0 0] 28))
  have HR0 := Lib.hid (Cs.new (w.alloc (.cells #[.int .i64 t, .slice a n c] 28)) (w.heap.size + 1) #[.int .i64 0, .slice none 0 0] 28 (by simp))
  have HB0 := Lib.hid (al2 (w := w) (o1 := .cells #[.int .i64 t, .slice a n c] 28) (o2 := .cells #[.int .i64 0, .slice none 0 0] 28))
  have HL0 := Lib.hid (h.step HB0.out)
  clear h hn h9
  go_enter Try.func34, Try.ntmps34
  go_upto_region 1 with fail
  generalize ((w.alloc (.cells #[.int .i64 t, .slice a n c] 28)).alloc (.cells #[.int .i64 0, .slice none 0 0] 28)) = wq at *
  go_cut [6] from 8 to 14 (fun p wc => AcG wq t n L p wc)
  case first =>
    have c0 : wq.cell? ⟨w.heap.size, 0, none⟩ = some (.int .i64 t) := HC0.out.c 0 rfl
    have c1 : wq.cell? ⟨w.heap.size, 1, none⟩ = some (.slice a n c) := HC0.out.c 1 rfl
    have d0 : (wq.alloc (.cells #[.int .i64 0, .slice none 0 0] 28)).cell? ⟨w.heap.size, 0, none⟩ = some (.int .i64 t) := (HC0.out.alloc _).c 0 rfl
    have d1 : (wq.alloc (.cells #[.int .i64 0, .slice none 0 0] 28)).cell? ⟨w.heap.size, 1, none⟩ = some (.slice a n c) := (HC0.out.alloc _).c 1 rfl
    go_region_law (go_simp; go_at_call 31; refine (bo_clone (.slice a n c) L _ (HL0.out.step (by first | exact below_drew _ _ | exact (al _ _).trans (below_drew _ _))) (by rw [HQ.out]; exact H9.out)).mono ?_; rintro e w3 ⟨u, rfl, hu, b3⟩; rw [HQ.out] at hu; obtain ⟨ua, uc, rfl⟩ := row_slice hu; have HU := Lib.hid hu; have B3 := Lib.hid b3; have HW3 := Lib.hid (show Below wq.heap.size wq w3 from by first | exact (below_drew _ _).trans b3 | exact keep2 b3 ((al wq _).trans (below_drew _ _))); have m0 : w3.cell? ⟨w.heap.size, 0, none⟩ = some (.int .i64 t) := (HC0.out.step HW3.out).c 0 rfl; have m1 : w3.cell? ⟨w.heap.size, 1, none⟩ = some (.slice a n c) := (HC0.out.step HW3.out).c 1 rfl; have n0 : (w3.alloc (.cells #[.int .i64 0, .slice none 0 0] 28)).cell? ⟨w.heap.size, 0, none⟩ = some (.int .i64 t) := ((HC0.out.step HW3.out).alloc _).c 0 rfl; have n1 : (w3.alloc (.cells #[.int .i64 0, .slice none 0 0] 28)).cell? ⟨w.heap.size, 1, none⟩ = some (.slice a n c) := ((HC0.out.step HW3.out).alloc _).c 1 rfl; (first | (have HQB := Lib.hid (show wq.heap.size < (wq.alloc (.cells #[.int .i64 0, .slice none 0 0] 28)).drew.heap.size by simp); have HU2 := Lib.hid (show w3.ownsRow (wq.alloc (.cells #[.int .i64 0, .slice none 0 0] 28)).drew.heap.size 4 1 (.slice ua n uc) n (L.map Value.bool) from hu); have HQ3 := Lib.hid (show Cs w3 wq.heap.size #[.int .i64 0, .slice none 0 0] from ((Cs.new wq wq.heap.size #[.int .i64 0, .slice none 0 0] 28 rfl).step (below_drew _ _)).step b3); have q0 : w3.cell? ⟨wq.heap.size, 0, none⟩ = some (.int .i64 0) := (((Cs.new wq wq.heap.size #[.int .i64 0, .slice none 0 0] 28 rfl).step (below_drew _ _)).step b3).c 0 rfl; have q1 : w3.cell? ⟨wq.heap.size, 1, none⟩ = some (.slice none 0 0) := (((Cs.new wq wq.heap.size #[.int .i64 0, .slice none 0 0] 28 rfl).step (below_drew _ _)).step b3).c 1 rfl; have g0 := (((Cs.new wq wq.heap.size #[.int .i64 0, .slice none 0 0] 28 rfl).step (below_drew _ _)).step b3).f 0 (by simp); have g1 := (((Cs.new wq wq.heap.size #[.int .i64 0, .slice none 0 0] 28 rfl).step (below_drew _ _)).step b3).f 1 (by simp)) | (have HQA := Lib.hid (show wq.heap.size ≤ wq.drew.heap.size from Nat.le_refl _))); clear hu b3)
    all_goals go_wp2
    all_goals go_meet
    all_goals first | with_reducible exact AcG.after HW3.out HU.out HQA.out | with_reducible exact AcG.before HW3.out HU2.out HQB.out HQ3.out
  case rest =>
    obtain ⟨g, uc, ua, rfl, hg, hne, hcs, hrow, hb⟩ := hcut
    have HNE := Lib.hid hne
    clear hne
    have HC1 := Lib.hid (HC0.out.step hb)
    have HR1 := Lib.hid (HR0.out.step hb)
    have HB1 := Lib.hid (keep2 hb HB0.out)
    have HL1 := Lib.hid (HL0.out.step hb)
    have HN1 := Lib.hid hcs
    have HO1 := Lib.hid hrow
    have HZ := Lib.hid (show w.heap.size + 1 < wq.heap.size from HR0.out.2.2)
    have HNN := Lib.hid hg
    clear hcs hb hrow hg HC0 HR0 HL0 HB0
    have c0 : wc.cell? ⟨w.heap.size, 0, none⟩ = some (.int .i64 t) := HC1.out.c 0 rfl
    have c1 : wc.cell? ⟨w.heap.size, 1, none⟩ = some (.slice a n c) := HC1.out.c 1 rfl
    go_wp2_with fail
    refine (hi.out _ HL1.out).mono ?_
    rintro e w4 ⟨rfl, b4⟩
    have HC4 := Lib.hid (HC1.out.step b4)
    have HR4 := Lib.hid (HR1.out.step b4)
    have HB4 := Lib.hid (keep2 b4 HB1.out)
    have HL4 := Lib.hid (HL1.out.step b4)
    have HN4 := Lib.hid (HN1.out.step b4)
    have HO4 := Lib.hid (row_step HO1.out b4)
    clear b4 c0 c1 HC1 HR1 HB1 HL1 HN1 HO1
    have c0 : w4.cell? ⟨w.heap.size, 0, none⟩ = some (.int .i64 t) := HC4.out.c 0 rfl
    have c1 : w4.cell? ⟨w.heap.size, 1, none⟩ = some (.slice a n c) := HC4.out.c 1 rfl
    have d0 : decide (seq < 0) = false := by have := hs.out; simp; omega
    have d1 : decide (1000000 < seq) = false := by have := hs.out; have := ht.out; simp; omega
    have d2 : decide (t < seq) = false := by have := hs.out; simp; omega
    have d2b : decide (seq > t) = false := by have := hs.out; simp; omega
    have hw : wrap64 (t - seq) = t - seq := IntWalk.wrap64_in _ (by have := hs.out; have := ht.out; omega)
    have d3 : decide ((16 : Int) ≤ t - seq) = false := by have := hd.out; simp; omega
    have d4 : decide (t - seq ≥ (16 : Int)) = false := by have := hd.out; simp; omega
    have d5 : 0 ≤ t - seq := by have := hd.out; omega
    have d6 : (t - seq).toNat = d := by have := hd.out; omega
    have d7 : t - seq < n := by have := hd.out; omega
    obtain ⟨a', cap', he, -, hcc⟩ := HL4.out
    obtain ⟨rfl, -, rfl⟩ : a = a' ∧ n = L.length ∧ c = cap' := by simpa using he
    obtain ⟨b, off, rfl, hx⟩ := hcc (by intro e; have h1 := HQ.out; have h2 := hd.out; rw [e] at h1; simp at h1; omega)
    have x0 := hx d _ (bo_get (by have := HQ.out; have := hd.out; omega))
    clear he hcc hx
    rw [hv.out] at x0
    have r0 : w4.cell? ⟨w.heap.size + 1, 0, none⟩ = some (.int .i64 0) := HR4.out.c 0 rfl
    have r1 : w4.cell? ⟨w.heap.size + 1, 1, none⟩ = some (.slice none 0 0) := HR4.out.c 1 rfl
    have p0 := HR4.out.f 0 (by simp)
    have p1 := HR4.out.f 1 (by simp)
    have n0 : w4.cell? ⟨g, 0, none⟩ = some (.int .i64 t) := HN4.out.c 0 rfl
    have n1 : w4.cell? ⟨g, 1, none⟩ = some (.slice ua n uc) := HN4.out.c 1 rfl
    have hng : ¬ (g = w.heap.size + 1) := by have := HNN.out; have := HZ.out; omega
    have hgn : ¬ (w.heap.size + 1 = g) := fun e => hng e.symm
    go_wp2_with fail
    refine (fun (h : ∀ W : World, Cs W (w.heap.size + 1) #[.int .i64 t, .slice ua n uc] → BosAt W (.slice ua n uc) L → Below w.heap.size w W → bodyPost Try.prog Try.f34 _ Exit.ret _ W) => h _ (Cs.set (Cs.set HR4.out 0 (by simp) (.int .i64 t) rfl) 1 (by simp) (.slice ua n uc) (vs' := #[.int .i64 t, .slice ua n uc]) rfl) (bos_row HQ.out (ownsRow_setCell_below (ownsRow_setCell_below HO4.out (a := ⟨w.heap.size + 1, 0, none⟩) HZ.out _) (a := ⟨w.heap.size + 1, 1, none⟩) HZ.out _)) ((HB4.out.setCell (p := ⟨w.heap.size + 1, 0, none⟩) (Nat.le_succ _) _).setCell (p := ⟨w.heap.size + 1, 1, none⟩) (Nat.le_succ _) _)) ?_
    intro W hC hO hB
    have k0 : W.cell? ⟨w.heap.size + 1, 0, none⟩ = some (.int .i64 t) := hC.c 0 rfl
    have k1 : W.cell? ⟨w.heap.size + 1, 1, none⟩ = some (.slice ua n uc) := hC.c 1 rfl
    exact bodyPost_ret (v := .tuple #[.agg #[.int .i64 t, .slice ua n uc], .int .i64 16]) (by simp [results, Try.results34, go_sem, k0, k1]) rfl (AcF.mk HQ.out (row_cap HO4.out) hO hB (fun k o e => Nat.le_trans (by have := HZ.out; omega) (row_fresh HO4.out e)))
open Go.RowKit

set_option maxRecDepth 100000 in
set_option maxHeartbeats 8000000 in
theorem acf_set (t : Int) (a : Option Addr) (n c : Nat) (L : List Bool) (seq : Int) (w : World) (h : BosAt w (.slice a n c) L) (hn : L.length = n) (h9 : n ≤ 100000) (hi : IsW t a n c L true) (hs : 0 ≤ seq ∧ seq ≤ t) (ht : t ≤ 1000000) (d : Nat) (hd : t - seq = d ∧ d < 16 ∧ n = 16) (hv : L.getD d false = false) : Calls Try.prog 34 #[.agg #[.int .i64 t, .slice a n c], .int .i64 seq] w (AcF w t (L.set d true) 0) := by
  have HQ := Lib.hid hn
  have H9 := Lib.hid h9
  replace hi := Lib.hid hi
  replace hs := Lib.hid hs
  replace ht := Lib.hid ht
  replace hd := Lib.hid hd
  replace hv := Lib.hid hv
  have HC0 := Lib.hid ((Cs.new w w.heap.size #[.int .i64 t, .slice a n c] 28 rfl).alloc (.cells #[.int .i64 0, .slice none 0 0] 28))
  have HR0 := Lib.hid (Cs.new (w.alloc (.cells #[.int .i64 t, .slice a n c] 28)) (w.heap.size + 1) #[.int .i64 0, .slice none 0 0] 28 (by simp))
  have HB0 := Lib.hid (al2 (w := w) (o1 := .cells #[.int .i64 t, .slice a n c] 28) (o2 := .cells #[.int .i64 0, .slice none 0 0] 28))
  have HL0 := Lib.hid (h.step HB0.out)
  clear h hn h9
  go_enter Try.func34, Try.ntmps34
  go_upto_region 1 with fail
  generalize ((w.alloc (.cells #[.int .i64 t, .slice a n c] 28)).alloc (.cells #[.int .i64 0, .slice none 0 0] 28)) = wq at *
  go_cut [6] from 8 to 14 (fun p wc => AcG wq t n L p wc)
  case first =>
    have c0 : wq.cell? ⟨w.heap.size, 0, none⟩ = some (.int .i64 t) := HC0.out.c 0 rfl
    have c1 : wq.cell? ⟨w.heap.size, 1, none⟩ = some (.slice a n c) := HC0.out.c 1 rfl
    have d0 : (wq.alloc (.cells #[.int .i64 0, .slice none 0 0] 28)).cell? ⟨w.heap.size, 0, none⟩ = some (.int .i64 t) := (HC0.out.alloc _).c 0 rfl
    have d1 : (wq.alloc (.cells #[.int .i64 0, .slice none 0 0] 28)).cell? ⟨w.heap.size, 1, none⟩ = some (.slice a n c) := (HC0.out.alloc _).c 1 rfl
    go_region_law (go_simp; go_at_call 31; refine (bo_clone (.slice a n c) L _ (HL0.out.step (by first | exact below_drew _ _ | exact (al _ _).trans (below_drew _ _))) (by rw [HQ.out]; exact H9.out)).mono ?_; rintro e w3 ⟨u, rfl, hu, b3⟩; rw [HQ.out] at hu; obtain ⟨ua, uc, rfl⟩ := row_slice hu; have HU := Lib.hid hu; have B3 := Lib.hid b3; have HW3 := Lib.hid (show Below wq.heap.size wq w3 from by first | exact (below_drew _ _).trans b3 | exact keep2 b3 ((al wq _).trans (below_drew _ _))); have m0 : w3.cell? ⟨w.heap.size, 0, none⟩ = some (.int .i64 t) := (HC0.out.step HW3.out).c 0 rfl; have m1 : w3.cell? ⟨w.heap.size, 1, none⟩ = some (.slice a n c) := (HC0.out.step HW3.out).c 1 rfl; have n0 : (w3.alloc (.cells #[.int .i64 0, .slice none 0 0] 28)).cell? ⟨w.heap.size, 0, none⟩ = some (.int .i64 t) := ((HC0.out.step HW3.out).alloc _).c 0 rfl; have n1 : (w3.alloc (.cells #[.int .i64 0, .slice none 0 0] 28)).cell? ⟨w.heap.size, 1, none⟩ = some (.slice a n c) := ((HC0.out.step HW3.out).alloc _).c 1 rfl; (first | (have HQB := Lib.hid (show wq.heap.size < (wq.alloc (.cells #[.int .i64 0, .slice none 0 0] 28)).drew.heap.size by simp); have HU2 := Lib.hid (show w3.ownsRow (wq.alloc (.cells #[.int .i64 0, .slice none 0 0] 28)).drew.heap.size 4 1 (.slice ua n uc) n (L.map Value.bool) from hu); have HQ3 := Lib.hid (show Cs w3 wq.heap.size #[.int .i64 0, .slice none 0 0] from ((Cs.new wq wq.heap.size #[.int .i64 0, .slice none 0 0] 28 rfl).step (below_drew _ _)).step b3); have q0 : w3.cell? ⟨wq.heap.size, 0, none⟩ = some (.int .i64 0) := (((Cs.new wq wq.heap.size #[.int .i64 0, .slice none 0 0] 28 rfl).step (below_drew _ _)).step b3).c 0 rfl; have q1 : w3.cell? ⟨wq.heap.size, 1, none⟩ = some (.slice none 0 0) := (((Cs.new wq wq.heap.size #[.int .i64 0, .slice none 0 0] 28 rfl).step (below_drew _ _)).step b3).c 1 rfl; have g0 := (((Cs.new wq wq.heap.size #[.int .i64 0, .slice none 0 0] 28 rfl).step (below_drew _ _)).step b3).f 0 (by simp); have g1 := (((Cs.new wq wq.heap.size #[.int .i64 0, .slice none 0 0] 28 rfl).step (below_drew _ _)).step b3).f 1 (by simp)) | (have HQA := Lib.hid (show wq.heap.size ≤ wq.drew.heap.size from Nat.le_refl _))); clear hu b3)
    all_goals go_wp2
    all_goals go_meet
    all_goals first | with_reducible exact AcG.after HW3.out HU.out HQA.out | with_reducible exact AcG.before HW3.out HU2.out HQB.out HQ3.out
  case rest =>
    obtain ⟨g, uc, ua, rfl, hg, hne, hcs, hrow, hb⟩ := hcut
    have HNE := Lib.hid hne
    clear hne
    have HC1 := Lib.hid (HC0.out.step hb)
    have HR1 := Lib.hid (HR0.out.step hb)
    have HB1 := Lib.hid (keep2 hb HB0.out)
    have HL1 := Lib.hid (HL0.out.step hb)
    have HN1 := Lib.hid hcs
    have HO1 := Lib.hid hrow
    have HZ := Lib.hid (show w.heap.size + 1 < wq.heap.size from HR0.out.2.2)
    have HNN := Lib.hid hg
    clear hcs hb hrow hg HC0 HR0 HL0 HB0
    have c0 : wc.cell? ⟨w.heap.size, 0, none⟩ = some (.int .i64 t) := HC1.out.c 0 rfl
    have c1 : wc.cell? ⟨w.heap.size, 1, none⟩ = some (.slice a n c) := HC1.out.c 1 rfl
    go_wp2_with fail
    refine (hi.out _ HL1.out).mono ?_
    rintro e w4 ⟨rfl, b4⟩
    have HC4 := Lib.hid (HC1.out.step b4)
    have HR4 := Lib.hid (HR1.out.step b4)
    have HB4 := Lib.hid (keep2 b4 HB1.out)
    have HL4 := Lib.hid (HL1.out.step b4)
    have HN4 := Lib.hid (HN1.out.step b4)
    have HO4 := Lib.hid (row_step HO1.out b4)
    clear b4 c0 c1 HC1 HR1 HB1 HL1 HN1 HO1
    have c0 : w4.cell? ⟨w.heap.size, 0, none⟩ = some (.int .i64 t) := HC4.out.c 0 rfl
    have c1 : w4.cell? ⟨w.heap.size, 1, none⟩ = some (.slice a n c) := HC4.out.c 1 rfl
    have d0 : decide (seq < 0) = false := by have := hs.out; simp; omega
    have d1 : decide (1000000 < seq) = false := by have := hs.out; have := ht.out; simp; omega
    have d2 : decide (t < seq) = false := by have := hs.out; simp; omega
    have d2b : decide (seq > t) = false := by have := hs.out; simp; omega
    have hw : wrap64 (t - seq) = t - seq := IntWalk.wrap64_in _ (by have := hs.out; have := ht.out; omega)
    have d3 : decide ((16 : Int) ≤ t - seq) = false := by have := hd.out; simp; omega
    have d4 : decide (t - seq ≥ (16 : Int)) = false := by have := hd.out; simp; omega
    have d5 : 0 ≤ t - seq := by have := hd.out; omega
    have d6 : (t - seq).toNat = d := by have := hd.out; omega
    have d7 : t - seq < n := by have := hd.out; omega
    obtain ⟨a', cap', he, -, hcc⟩ := HL4.out
    obtain ⟨rfl, -, rfl⟩ : a = a' ∧ n = L.length ∧ c = cap' := by simpa using he
    obtain ⟨b, off, rfl, hx⟩ := hcc (by intro e; have h1 := HQ.out; have h2 := hd.out; rw [e] at h1; simp at h1; omega)
    have x0 := hx d _ (bo_get (by have := HQ.out; have := hd.out; omega))
    clear he hcc hx
    rw [hv.out] at x0
    rcases HO4.out.2 with ⟨e, e0⟩ | ⟨gg, cp, cur, e, hg1, hg2, hg3⟩
    · exfalso
      have h1 := hd.out
      omega
    · obtain ⟨rfl, rfl⟩ : ua = some ⟨gg, 0, none⟩ ∧ uc = cp := by simpa using e
      have y0 : w4.cell? ⟨gg, d, none⟩ = some (.bool (L.getD d false)) := by
        have h := HO4.out.cells (g := gg) rfl d (.bool (L.getD d false)) (by rw [List.getElem?_map, bo_get (by have := HQ.out; have := hd.out; omega)]; rfl)
        rwa [Go.WideShapes.add_plain, Nat.zero_add] at h
      have HG := Lib.hid (Cs.of_heap hg2)
      have y1 : w4.frozen? ⟨gg, d, none⟩ = false := HG.out.2.1 _ (by
        have h1 := hg3.1
        have h2 := hg3.2.2.1
        have h3 := hd.out
        omega)
      rw [hv.out] at y0
      clear e hg2 hg3
      have HGE := Lib.hid (show w.heap.size + 1 < gg by have := HZ.out; have := (row_lt0 HO4.out rfl).1; omega)
      have hgr : ¬ (gg = w.heap.size + 1) := by have := HGE.out; omega
      have hrg : ¬ (w.heap.size + 1 = gg) := by have := HGE.out; omega
      have r0 : w4.cell? ⟨w.heap.size + 1, 0, none⟩ = some (.int .i64 0) := HR4.out.c 0 rfl
      have r1 : w4.cell? ⟨w.heap.size + 1, 1, none⟩ = some (.slice none 0 0) := HR4.out.c 1 rfl
      have p0 := HR4.out.f 0 (by simp)
      have p1 := HR4.out.f 1 (by simp)
      have hng : ¬ (gg = g) := HNE.out gg rfl
      have hgn : ¬ (g = gg) := fun e => hng e.symm
      have n0 : w4.cell? ⟨g, 0, none⟩ = some (.int .i64 t) := HN4.out.c 0 rfl
      have n1 : w4.cell? ⟨g, 1, none⟩ = some (.slice (some ⟨gg, 0, none⟩) n uc) := HN4.out.c 1 rfl
      have HS := Lib.hid (bos_set HQ.out HO4.out (show d < n by have := hd.out; omega) (w.heap.size + 1) (by have := HGE.out; omega) (.int .i64 t) (.slice (some ⟨gg, 0, none⟩) n uc))
      have d8 : d < n := by have := hd.out; omega
      go_wp2_with fail
      refine (fun (h : ∀ W : World, Cs W (w.heap.size + 1) #[.int .i64 t, (.slice (some ⟨gg, 0, none⟩) n uc)] → BosAt W (.slice (some ⟨gg, 0, none⟩) n uc) (L.set d true) → Below w.heap.size w W → bodyPost Try.prog Try.f34 _ Exit.ret _ W) => h _ (Cs.set (Cs.set (Cs.other HR4.out hrg d (.bool true)) 0 (by simp) (.int .i64 t) rfl) 1 (by simp) (.slice (some ⟨gg, 0, none⟩) n uc) (vs' := #[.int .i64 t, (.slice (some ⟨gg, 0, none⟩) n uc)]) rfl) HS.out (((HB4.out.setCell (p := ⟨gg, d, none⟩) (by have := HGE.out; simp; omega) _).setCell (p := ⟨w.heap.size + 1, 0, none⟩) (Nat.le_succ _) _).setCell (p := ⟨w.heap.size + 1, 1, none⟩) (Nat.le_succ _) _)) ?_
      intro W hC hO hB
      have k0 : W.cell? ⟨w.heap.size + 1, 0, none⟩ = some (.int .i64 t) := hC.c 0 rfl
      have k1 : W.cell? ⟨w.heap.size + 1, 1, none⟩ = some (.slice (some ⟨gg, 0, none⟩) n uc) := hC.c 1 rfl
      exact bodyPost_ret (v := .tuple #[.agg #[.int .i64 t, (.slice (some ⟨gg, 0, none⟩) n uc)], .int .i64 0]) (by simp [results, Try.results34, go_sem, k0, k1]) rfl (AcF.mk (by rw [List.length_set]; exact HQ.out) (row_cap HO4.out) hO hB (fun k o e => Nat.le_trans (by have := HZ.out; omega) (row_fresh HO4.out e)))
end Go.Proofs.Ytnanndmpbecdiaa
