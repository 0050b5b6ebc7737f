/- The contracts of 'within', 'divideDown', 'Base', 'amounts'. -/
import Derived.Test.YtbmmmhjgidffpaaDoorA
import Derived.Laws.AppendOwn
import Derived.OwnWalk
namespace Go.Proofs.YtbmmmhjgidffpaaDoor
open Go.RowKit

theorem within_yes (n lo hi : Int) (w : World) (h1 : lo ≤ n) (h2 : n ≤ hi) :
    Calls Tryd.prog 30 #[.int .i64 n, .int .i64 lo, .int .i64 hi] w fun e w' => e = .returned (.bool true) ∧ w = w' := by
  have h3 : decide (lo ≤ n) = true := by simpa using h1
  have h4 : decide (n ≤ hi) = true := by simpa using h2
  go_enter Tryd.func30, Tryd.ntmps30
  go_wp2
  go_ret
  exact ⟨rfl, rfl⟩
theorem within_low (n lo hi : Int) (w : World) (h1 : ¬ lo ≤ n) :
    Calls Tryd.prog 30 #[.int .i64 n, .int .i64 lo, .int .i64 hi] w fun e w' => e = .returned (.bool false) ∧ w = w' := by
  have h3 : decide (lo ≤ n) = false := by simpa using h1
  go_enter Tryd.func30, Tryd.ntmps30
  go_wp2
  go_ret
  exact ⟨rfl, rfl⟩
theorem within_high (n lo hi : Int) (w : World) (h1 : lo ≤ n) (h2 : ¬ n ≤ hi) :
    Calls Tryd.prog 30 #[.int .i64 n, .int .i64 lo, .int .i64 hi] w fun e w' => e = .returned (.bool false) ∧ w = w' := by
  have h3 : decide (lo ≤ n) = true := by simpa using h1
  have h4 : decide (n ≤ hi) = false := by simpa using h2
  go_enter Tryd.func30, Tryd.ntmps30
  go_wp2
  go_ret
  exact ⟨rfl, rfl⟩
def inB (n lo hi : Int) : Bool := decide (lo ≤ n ∧ n ≤ hi)
theorem within_any (n lo hi : Int) (w : World) :
    Calls Tryd.prog 30 #[.int .i64 n, .int .i64 lo, .int .i64 hi] w fun e w' => e = .returned (.bool (inB n lo hi)) ∧ w = w' := by
  by_cases h1 : lo ≤ n
  · by_cases h2 : n ≤ hi
    · have : inB n lo hi = true := by unfold inB; simp [h1, h2]
      rw [this]; exact within_yes n lo hi w h1 h2
    · have : inB n lo hi = false := by unfold inB; simp [h2]
      rw [this]; exact within_high n lo hi w h1 h2
  · have : inB n lo hi = false := by unfold inB; simp [h1]
    rw [this]; exact within_low n lo hi w h1

theorem tdiv_split (n : Int) : (0 ≤ n ∧ n.tdiv 36000 = n / 36000 ∧ n.tmod 36000 = n % 36000) ∨ (n < 0 ∧ n.tdiv 36000 = -((-n) / 36000) ∧ n.tmod 36000 = -((-n) % 36000)) := by
  by_cases h : 0 ≤ n
  · exact .inl ⟨h, Int.tdiv_eq_ediv_of_nonneg h, Int.tmod_eq_emod_of_nonneg h⟩
  · refine .inr ⟨by omega, ?_, ?_⟩
    · rw [← Int.tdiv_eq_ediv_of_nonneg (by omega), Int.neg_tdiv, Int.neg_neg]
    · rw [← Int.tmod_eq_emod_of_nonneg (by omega), Int.neg_tmod, Int.neg_neg]
theorem down_eq (n : Int) : n / 36000 = if n.tmod 36000 < 0 then n.tdiv 36000 - 1 else n.tdiv 36000 := by
  rcases tdiv_split n with ⟨h, h1, h2⟩ | ⟨h, h1, h2⟩ <;> rw [h1, h2] <;> split <;> omega
theorem tdiv_bd (n : Int) (h3 : -2000000000000000000 ≤ n) (h4 : n ≤ 2000000000000000000) : wrap64 (n.tdiv 36000) = n.tdiv 36000 ∧ wrap64 (n.tdiv 36000 - 1) = n.tdiv 36000 - 1 :=
  ⟨IntWalk.wrap64_in _ (by rcases tdiv_split n with ⟨h, h1, h2⟩ | ⟨h, h1, h2⟩ <;> rw [h1] <;> omega), IntWalk.wrap64_in _ (by rcases tdiv_split n with ⟨h, h1, h2⟩ | ⟨h, h1, h2⟩ <;> rw [h1] <;> omega)⟩
theorem divideDown_any (n : Int) (w : World) (h3 : -2000000000000000000 ≤ n) (h4 : n ≤ 2000000000000000000) :
    Calls Tryd.prog 37 #[.int .i64 n, .int .i64 36000] w fun e w' => e = .returned (.int .i64 (n / 36000)) ∧ w = w' := by
  have hq := down_eq n
  have HW := Lib.hid (tdiv_bd n h3 h4)
  by_cases h : n.tmod 36000 < 0
  · rw [if_pos h] at hq
    have HQ := Lib.hid hq
    clear hq h3 h4
    go_enter Tryd.func37, Tryd.ntmps37
    go_wp2
    go_ret
    exact ⟨ret_int (by rw [HW.out.1, HW.out.2, HQ.out]), rfl⟩
  · rw [if_neg h] at hq
    have HQ := Lib.hid hq
    clear hq h3 h4
    go_enter Tryd.func37, Tryd.ntmps37
    go_wp2
    go_ret
    exact ⟨ret_int (by rw [HW.out.1, HQ.out]), rfl⟩

/-- What 'Base' gives: the error, the dimension, the value. -/
def bE (t : Int) (s : ByteArray) : Int := if ux s < 11 then (if inB t (-1000000000) 1000000000 then 0 else 11) else 7
def bD (t : Int) (s : ByteArray) : Int := if bE t s = 0 then tD (ux s) else 0
def bV (t : Int) (s : ByteArray) : Int := if bE t s = 0 then t * tF (ux s) else 0
theorem mul_in (t f : Int) (h1 : -1000000000 ≤ t) (h2 : t ≤ 1000000000) (h3 : 1 ≤ f) (h4 : f ≤ 3600) : -3600000000000 ≤ t * f ∧ t * f ≤ 3600000000000 := by
  constructor
  · have h5 : -(1000000000 * f) ≤ t * f := by rw [← Int.neg_mul]; exact Int.mul_le_mul_of_nonneg_right h1 (by omega)
    omega
  · have h5 : t * f ≤ 1000000000 * f := Int.mul_le_mul_of_nonneg_right h2 (by omega)
    omega
theorem elt_def (k : Nat) : elt k = .agg #[.string (tN k), .int .i64 (tD k), .int .i64 (tF k)] := rfl
theorem below_drewN' (B : Nat) (W : World) (n : Nat) : Below B W (W.drewN n) := ⟨rfl, rfl, rfl, Nat.le_refl _, fun _ _ => rfl⟩
theorem bl1 {w w1 : World} {o : Obj} (hb : Below (w.alloc o).heap.size (w.alloc o) w1) : Below w.heap.size w w1 := alloc_of (hb.mono (by simp)) (Nat.le_refl _)
theorem bl1_lt {w w1 : World} {o : Obj} (hb : Below (w.alloc o).heap.size (w.alloc o) w1) : w.heap.size < w1.heap.size := Nat.lt_of_lt_of_le (by simp) hb.size
theorem bl1_al {w w1 : World} {o o2 : Obj} (hb : Below (w.alloc o).heap.size (w.alloc o) w1) : Below w.heap.size w (w1.alloc o2) := (bl1 hb).alloc (Nat.le_of_lt (bl1_lt hb)) _
set_option maxRecDepth 100000 in
set_option maxHeartbeats 1000000 in
theorem base12_no (t : Int) (s : ByteArray) (w : World) (hT : Tab w) (h : ¬ ux s < 11) :
    Calls Tryd.prog 12 #[.agg #[.int .i64 t, .string s]] w fun e w' => e = .returned (.tuple #[.int .i64 0, .int .i64 0, .int .i64 7]) ∧ Below w.heap.size w w' := by
  have HT := Lib.hid hT
  have hd : decide (ux s < 11) = false := by simpa using h
  go_enter Tryd.func12, Tryd.ntmps12
  go_wp2_with (go_at_call 29; go_must (refine (named_any s _ (HT.out.alloc _)).mono ?_); rintro e w1 ⟨rfl, b1⟩; simp only [elt_def, hd])
  go_ret3
  exact ⟨rfl, bl1_al b1⟩
set_option maxRecDepth 100000 in
set_option maxHeartbeats 1000000 in
theorem base12_far (t : Int) (s : ByteArray) (w : World) (hT : Tab w) (h : ux s < 11) (hi : inB t (-1000000000) 1000000000 = false) :
    Calls Tryd.prog 12 #[.agg #[.int .i64 t, .string s]] w fun e w' => e = .returned (.tuple #[.int .i64 0, .int .i64 0, .int .i64 11]) ∧ Below w.heap.size w w' := by
  have HT := Lib.hid hT
  have hd : decide (ux s < 11) = true := by simpa using h
  go_enter Tryd.func12, Tryd.ntmps12
  go_wp2_with (first | (go_at_call 29; go_must (refine (named_any s _ (HT.out.alloc _)).mono ?_); rintro e w1 ⟨rfl, b1⟩; simp only [elt_def, hd]; obtain ⟨hc, hf⟩ := bcell b1; have hz := bl1_lt b1) | (go_at_call 30; go_must (refine (within_any t _ _ _).mono ?_); rintro e w2 ⟨rfl, rfl⟩))
  go_ret3
  exact ⟨rfl, bl1_al b1⟩
set_option maxRecDepth 100000 in
set_option maxHeartbeats 1000000 in
theorem base12_ok (t : Int) (s : ByteArray) (w : World) (hT : Tab w) (h : ux s < 11) (hi : inB t (-1000000000) 1000000000 = true) :
    Calls Tryd.prog 12 #[.agg #[.int .i64 t, .string s]] w fun e w' => e = .returned (.tuple #[.int .i64 (tD (ux s)), .int .i64 (t * tF (ux s)), .int .i64 0]) ∧ Below w.heap.size w w' := by
  have HT := Lib.hid hT
  have hd : decide (ux s < 11) = true := by simpa using h
  have hb : -1000000000 ≤ t ∧ t ≤ 1000000000 := by simpa [inB] using hi
  have hfa := tF_pos _ h
  have hmul := mul_in t (tF (ux s)) hb.1 hb.2 hfa.1 hfa.2
  go_enter Tryd.func12, Tryd.ntmps12
  go_wp2_with (first | (go_at_call 29; go_must (refine (named_any s _ (HT.out.alloc _)).mono ?_); rintro e w1 ⟨rfl, b1⟩; simp only [elt_def, hd]; obtain ⟨hc, hf⟩ := bcell b1; have hz := bl1_lt b1) | (go_at_call 30; go_must (refine (within_any t _ _ _).mono ?_); rintro e w2 ⟨rfl, rfl⟩))
  go_quiet (fail)
  go_wp2
  go_ret3
  exact ⟨rfl, (bl1_al b1).trans (below_drewN' _ _ _)⟩
theorem bE_in (t : Int) (s : ByteArray) : bE t s = 0 ∨ bE t s = 7 ∨ bE t s = 11 := by unfold bE; split <;> (try split) <;> simp
theorem base12_any (t : Int) (s : ByteArray) (w : World) (hT : Tab w) :
    Calls Tryd.prog 12 #[.agg #[.int .i64 t, .string s]] w fun e w' => e = .returned (.tuple #[.int .i64 (bD t s), .int .i64 (bV t s), .int .i64 (bE t s)]) ∧ Below w.heap.size w w' := by
  by_cases h : ux s < 11
  · cases hi : inB t (-1000000000) 1000000000
    · have := base12_far t s w hT h hi
      simpa [bD, bV, bE, h, hi] using this
    · have := base12_ok t s w hT h hi
      simpa [bD, bV, bE, h, hi] using this
  · have := base12_no t s w hT h
    simpa [bD, bV, bE, h] using this

theorem info56 : (Tryd.prog.info? 56).map (fun i => (i.zero, i.size, i.bytes)) = some (some (.agg #[.int .i64 0, .int .i64 0]), 2, 16) := by kernel_rfl
/-- The cells of the first k of two amounts. -/
def acells (t1 : Int) (s1 : ByteArray) (t2 : Int) (s2 : ByteArray) (k : Nat) : List Value := [Value.int .i64 (bD t1 s1), .int .i64 (bV t1 s1), .int .i64 (bD t2 s2), .int .i64 (bV t2 s2)].take (2 * k)
/-- The error of two quantities. -/
def aE (t1 : Int) (s1 : ByteArray) (t2 : Int) (s2 : ByteArray) : Int := if bE t1 s1 = 0 then bE t2 s2 else bE t1 s1
/-- What 'amounts' gives of two quantities. -/
def AmPost (t1 : Int) (s1 : ByteArray) (t2 : Int) (s2 : ByteArray) (w : World) (e : Ending) (w' : World) : Prop :=
  ((aE t1 s1 t2 s2 ≠ 0 ∧ e = .returned (.tuple #[.slice none 0 0, .int .i64 (aE t1 s1 t2 s2)])) ∨
   (aE t1 s1 t2 s2 = 0 ∧ ∃ g cap, e = .returned (.tuple #[.slice (some ⟨g, 0, none⟩) 2 cap, .int .i64 0]) ∧ w.heap.size ≤ g ∧ g < w'.heap.size ∧
      w'.cell? ⟨g, 0, none⟩ = some (.int .i64 (bD t1 s1)) ∧ w'.cell? ⟨g, 1, none⟩ = some (.int .i64 (bV t1 s1)) ∧ w'.cell? ⟨g, 2, none⟩ = some (.int .i64 (bD t2 s2)) ∧ w'.cell? ⟨g, 3, none⟩ = some (.int .i64 (bV t2 s2)))) ∧ Below w.heap.size w w'

def qt (t1 t2 : Int) (k : Nat) : Int := if k = 0 then t1 else t2
def qs (s1 s2 : ByteArray) (k : Nat) : ByteArray := if k = 0 then s1 else s2
theorem acells_step (t1 : Int) (s1 : ByteArray) (t2 : Int) (s2 : ByteArray) (k : Nat) (hk : k < 2) :
    acells t1 s1 t2 s2 (k + 1) = acells t1 s1 t2 s2 k ++ [.int .i64 (bD (qt t1 t2 k) (qs s1 s2 k)), .int .i64 (bV (qt t1 t2 k) (qs s1 s2 k))] := by
  match k, hk with
  | 0, _ => rfl
  | 1, _ => rfl
theorem aE_at (t1 : Int) (s1 : ByteArray) (t2 : Int) (s2 : ByteArray) (k : Nat) (hk : k < 2) (h : (1 ≤ k → bE t1 s1 = 0) ∧ (2 ≤ k → bE t2 s2 = 0)) :
    (bE (qt t1 t2 k) (qs s1 s2 k) ≠ 0 → aE t1 s1 t2 s2 = bE (qt t1 t2 k) (qs s1 s2 k)) ∧ (bE (qt t1 t2 k) (qs s1 s2 k) = 0 → (1 ≤ k + 1 → bE t1 s1 = 0) ∧ (2 ≤ k + 1 → bE t2 s2 = 0)) := by
  match k, hk with
  | 0, _ => exact ⟨fun h' => if_neg h', fun h' => ⟨fun _ => h', fun h => absurd h (by omega)⟩⟩
  | 1, _ => exact ⟨fun h' => if_pos (h.1 (by omega)), fun h' => ⟨fun _ => h.1 (by omega), fun _ => h'⟩⟩
theorem AmPost.no {t1 : Int} {s1 : ByteArray} {t2 : Int} {s2 : ByteArray} {w w' : World} {x : Int} (hx : x ≠ 0) (h : aE t1 s1 t2 s2 = x) (hb : Below w.heap.size w w') :
    AmPost t1 s1 t2 s2 w (.returned (.tuple #[.slice none 0 0, .int .i64 x])) w' := ⟨.inl ⟨by rw [h]; exact hx, by rw [h]⟩, hb⟩
theorem AmPost.yes {t1 : Int} {s1 : ByteArray} {t2 : Int} {s2 : ByteArray} {w w' : World} {v : Value} {k : Nat} (hk : k = 2) (he : (1 ≤ k → bE t1 s1 = 0) ∧ (2 ≤ k → bE t2 s2 = 0)) (hr : w'.ownsRow w.heap.size 56 2 v k (acells t1 s1 t2 s2 k)) (hb : Below w.heap.size w w') :
    AmPost t1 s1 t2 s2 w (.returned (.tuple #[v, .int .i64 0])) w' := by
  subst hk
  refine ⟨.inr ⟨by rw [aE, if_pos (he.1 (by omega))]; exact he.2 (by omega), ?_⟩, hb⟩
  rcases hr.2 with ⟨_, h0⟩ | ⟨g, cap, cur, rfl, hgb, hg, _⟩
  · cases h0
  · have hc : ∀ j u, (acells t1 s1 t2 s2 2)[j]? = some u → w'.cell? ⟨g, j, none⟩ = some u := fun j u hu => by
      have := hr.cells (g := g) rfl j u hu
      have hadd : (⟨g, 0, none⟩ : Addr).add j = ⟨g, j, none⟩ := by unfold Addr.add; split <;> simp_all
      rwa [hadd] at this
    exact ⟨g, cap, rfl, hgb, (Array.getElem?_eq_some_iff.1 hg).1, hc 0 _ rfl, hc 1 _ rfl, hc 2 _ rfl, hc 3 _ rfl⟩
theorem row_below {B : Nat} {e : TypeId} {k : Nat} {v : Value} {n : Nat} {xs : List Value} {w w' : World} (h : w.ownsRow B e k v n xs) (hb : Below w.heap.size w w') : w'.ownsRow B e k v n xs :=
  h.kept (row := none) ⟨hb.os, hb.tape, hb.output, hb.size, fun i hi _ => hb.block i hi⟩ (by cases v.ownBlock <;> simp)
theorem cell_two_new (w : World) (x y : Value) (T : TypeId) : ∀ j u, [x, y][j]? = some u → (w.alloc (.cells #[x, y] T)).cell? ((⟨w.heap.size, 0, none⟩ : Addr).add j) = some u := by
  intro j u hu
  have hadd : (⟨w.heap.size, 0, none⟩ : Addr).add j = ⟨w.heap.size, j, none⟩ := by unfold Addr.add; split <;> simp_all
  rw [hadd, World.cell?_alloc_new]
  simpa using hu

set_option maxRecDepth 100000 in
set_option maxHeartbeats 1000000 in
theorem amounts_any (t1 : Int) (s1 : ByteArray) (t2 : Int) (s2 : ByteArray) (b : Nat) (w : World) (hT : Tab w) (h0 : w.cell? ⟨b, 0, none⟩ = some (.int .i64 t1)) (h1 : w.cell? ⟨b, 1, none⟩ = some (.string s1)) (h2 : w.cell? ⟨b, 2, none⟩ = some (.int .i64 t2)) (h3 : w.cell? ⟨b, 3, none⟩ = some (.string s2)) :
    Calls Tryd.prog 36 #[.slice (some ⟨b, 0, none⟩) 2 2] w (AmPost t1 s1 t2 s2 w) := by
  have hp := hT.pos
  have hbw : b < w.heap.size := World.block_lt_of_cell? _ _ h0
  have HT := Lib.hid hT
  have H0 := Lib.hid (show ∀ k, k < 2 → w.cell? ⟨b, k * 2, none⟩ = some (.int .i64 (qt t1 t2 k)) ∧ w.cell? ⟨b, k * 2 + 1, none⟩ = some (.string (qs s1 s2 k)) from fun k hk => by
    match k, hk with
    | 0, _ => exact ⟨h0, h1⟩
    | 1, _ => exact ⟨h2, h3⟩)
  clear h0 h1 h2 h3 hT
  obtain ⟨i0, hi, hy0, hy1, hy2⟩ := info_parts info56
  go_enter Tryd.func36, Tryd.ntmps36
  go_wp2_with fail
  go_loopw [4, 12] (fun v i wr => ∃ k : Nat, k ≤ 2 ∧ i = .int .i64 k ∧ Hid (wr.ownsRow w.heap.size 56 2 v k (acells t1 s1 t2 s2 k)) ∧ Hid (Below w.heap.size w wr) ∧ Hid ((1 ≤ k → bE t1 s1 = 0) ∧ (2 ≤ k → bE t2 s2 = 0))) (fun _ i _ => 2 - (intOf i).toNat)
  case atStart => exact ⟨0, by omega, rfl, World.ownsRow_nil _ _ _ _, Below.refl _ _, ⟨fun h => absurd h (by omega), fun h => absurd h (by omega)⟩⟩
  case round =>
    obtain ⟨k, hk, rfl, HR, HB, HE⟩ := hrel
    by_cases hlt : k < 2
    · have hcs := H0.out k hlt
      have hA := aE_at t1 s1 t2 s2 k hlt HE.out
      have hS := Lib.hid (acells_step t1 s1 t2 s2 k hlt)
      generalize qt t1 t2 k = t at *
      generalize qs s1 s2 k = s at *
      have x0 := (HB.out.cell (p := ⟨b, k * 2, none⟩) hbw).trans hcs.1
      have x1 := (HB.out.cell (p := ⟨b, k * 2 + 1, none⟩) hbw).trans hcs.2
      have hz : w.heap.size ≤ wr.heap.size := HB.out.size
      have HTr := Lib.hid (HT.out.below HB.out hp)
      clear hcs
      by_cases he : bE t s = 0
      · have he1 : (bE t s != 0) = false := by simpa using he
        have HE2 := Lib.hid (hA.2 he)
        clear hA he
        go_wp2_with (first | (go_at_call 12; go_must (refine (base12_any t s _ (HTr.out.alloc _)).mono ?_); rintro e w1 ⟨rfl, b1⟩; have HR1 := Lib.hid (row_below HR.out (bl1 b1)); have hz1 := bl1_lt b1; have HB1 := Lib.hid (HB.out.trans ((bl1 b1).mono hz)); clear b1) | (at_builtin; go_must (refine wpList_append_own _ rfl _ _ 63 rfl w.heap.size 56 i0 _ 2 16 Tryd.underlying63 hi hy0 hy1 hy2 rfl (by decide) _ _ _ rfl (HR1.out.alloc _) ⟨w1.heap.size, 0, none⟩ 1 1 [.int .i64 (bD t s), .int .i64 (bV t s)] rfl rfl (cell_two_new _ _ _ _) (by simp [Value.oneCell']) (by unfold maxLen; omega) (by omega) (by simp; omega) ?_); intro v6 w6 hown6 hgrow6 _))
        have HB6 := Lib.hid ((HB1.out.alloc (by omega) _).grown hgrow6 (by simp; omega) (fun j e => (HR.out.lt j e).1))
        have HR6 := Lib.hid hown6
        clear hown6 hgrow6
        go_wp2
        go_roundw
        case rel => exact ⟨k + 1, by omega, by go_num, by rw [hS.out]; exact HR6.out, HB6, HE2⟩
        case measure => simp [intOf]; omega
      · have he1 : (bE t s != 0) = true := by simpa using he
        have HA := Lib.hid (hA.1 he)
        clear hA
        go_wp2_with (go_at_call 12; go_must (refine (base12_any t s _ (HTr.out.alloc _)).mono ?_); rintro e w1 ⟨rfl, b1⟩)
        go_ret2
        exact AmPost.no he HA.out (HB.out.trans ((bl1 b1).mono hz))
    · go_wp2_with fail
      go_ret2
      exact AmPost.yes (by omega) HE.out HR.out HB.out
end Go.Proofs.YtbmmmhjgidffpaaDoor
