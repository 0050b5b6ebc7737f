/- Delivery: find, Delete, Confirm. -/
import Derived.Test.YtkamkkjijjkfdaaDh
import Derived.Deep.AppendLies
import Derived.Maps.AppendAt
namespace Go.Proofs.Ytkamkkjijjkfdaa
open Go.RowKit

set_option maxRecDepth 100000 in
set_option maxHeartbeats 8000000 in
theorem confirm1_any (x : Od) (seq : Int) (B : Nat) (w : World) (h : Cs w B #[.int .i64 seq]) (r : Bool) (hr : decide (x.a = seq) = r) : Calls Try.prog 38 #[.agg #[.int .i64 x.a, .int .i64 x.b, .int .i64 x.c, .int .i64 x.d], .pointer (some ⟨B, 0, none⟩)] w fun e w' => e = .returned (.bool r) ∧ Below w.heap.size w w' := by
  have HB := Lib.hid (al w (.cells #[.int .i64 x.a, .int .i64 x.b, .int .i64 x.c, .int .i64 x.d] 32))
  have c0 := (h.alloc (.cells #[.int .i64 x.a, .int .i64 x.b, .int .i64 x.c, .int .i64 x.d] 32)).c 0 rfl
  have cz := (h.alloc (.cells #[.int .i64 x.a, .int .i64 x.b, .int .i64 x.c, .int .i64 x.d] 32)).2.2
  have e1 : (x.a == seq) = r := by rw [← hr]; rfl
  clear h
  go_enter Try.func38, Try.ntmps38
  go_wp2
  go_ret
  exact ⟨by first | rfl | (rw [← hr]; simp) | simp [hr], HB.out⟩
/-- The first that is numbered so. -/
def fdI (seq : Int) : List Od → Nat → Option Nat
  | [], _ => none
  | x :: L, k => if x.a = seq then some k else fdI seq L (k + 1)
theorem fdI_none {seq : Int} {L : List Od} {k : Nat} : fdI seq L k = none ↔ ∀ j, j < L.length → (L.getD j zO).a ≠ seq := by
  induction L generalizing k with
  | nil => simp [fdI]
  | cons x L ih =>
    unfold fdI
    by_cases h : x.a = seq
    · rw [if_pos h]
      constructor
      · intro e; cases e
      · intro e; exact absurd h (e 0 (by simp))
    · rw [if_neg h, ih]
      constructor
      · intro e j hj
        cases j with
        | zero => exact h
        | succ j => exact e j (by simpa using hj)
      · intro e j hj
        exact e (j + 1) (by simpa using hj)
theorem fdI_some {seq : Int} {L : List Od} {k i : Nat} : fdI seq L k = some i ↔ k ≤ i ∧ i - k < L.length ∧ (L.getD (i - k) zO).a = seq ∧ ∀ j, j < i - k → (L.getD j zO).a ≠ seq := by
  induction L generalizing k with
  | nil => simp [fdI]
  | cons x L ih =>
    unfold fdI
    by_cases h : x.a = seq
    · rw [if_pos h]
      constructor
      · intro e; cases e
        refine ⟨Nat.le_refl _, by simp, by simpa using h, fun j hj => by omega⟩
      · rintro ⟨h1, h2, h3, h4⟩
        by_cases e : i = k
        · rw [e]
        · exact absurd h (h4 0 (by omega))
    · rw [if_neg h, ih]
      constructor
      · rintro ⟨h1, h2, h3, h4⟩
        have e : i - k = (i - (k + 1)) + 1 := by omega
        refine ⟨by omega, by rw [e]; simpa using h2, by rw [e]; simpa using h3, fun j hj => ?_⟩
        cases j with
        | zero => simpa using h
        | succ j => exact h4 j (by omega)
      · rintro ⟨h1, h2, h3, h4⟩
        have hk : i ≠ k := by
          intro e; subst e
          rw [Nat.sub_self] at h3
          exact h h3
        have e : i - k = (i - (k + 1)) + 1 := by omega
        refine ⟨by omega, by rw [e] at h2; simpa using h2, by rw [e] at h3; simpa using h3, fun j hj => ?_⟩
        exact h4 (j + 1) (by omega)
set_option maxRecDepth 100000 in
set_option maxHeartbeats 8000000 in
theorem findO_any (v : Value) (L : List Od) (seq : Int) (B : Nat) (w : World) (h : OdsAt w v L) (hB : Cs w B #[.int .i64 seq]) :
    Calls Try.prog 37 #[v, .func (.func 38) #[] #[.pointer (some ⟨B, 0, none⟩)]] w fun e w' => e = .returned (.tuple #[.int .i64 (((fdI seq L 0).getD 0 : Nat) : Int), .bool (fdI seq L 0).isSome]) ∧ Below w.heap.size w w' := by
  have HL := Lib.hid h
  have HC := Lib.hid hB
  obtain ⟨sa, sc, rfl, -, hm, -⟩ := h
  unfold maxLen at hm
  clear hB
  have heg : ∀ args w, (callFunc 38 args).run Try.prog w = .ok (.enter 38 args) w := fun _ _ => by kernel_rfl
  go_enter Try.func37, Try.ntmps37
  go_wp2_with fail
  go_loopw [10] (fun iv wr => ∃ k : Nat, k ≤ L.length ∧ iv = .int .i64 k ∧ Hid (∀ j, j < k → (L.getD j zO).a ≠ seq) ∧ Hid (Below w.heap.size w wr)) (fun iv _ => L.length - (intOf iv).toNat)
  case atStart => exact ⟨0, by omega, rfl, Lib.hid (fun j h => absurd h (by omega)), Lib.hid (Below.refl _ _)⟩
  case round =>
    obtain ⟨k, hk, rfl, HN, HW⟩ := hrel
    by_cases hlt : k < L.length
    · obtain ⟨a1, c1, hv1, -, -, hcs1⟩ := HL.out.step HW.out
      obtain ⟨rfl, rfl⟩ : sa = a1 ∧ sc = c1 := by simpa using hv1
      obtain ⟨b1, o1, rfl, hx1⟩ := hcs1 (by intro e; rw [e] at hlt; simp at hlt)
      obtain ⟨y0, y1, y2, y3⟩ := hx1 k _ (od_get hlt)
      have yz : b1 < wr.heap.size := World.block_lt_of_cell? _ _ y0
      have t1 : (k : Int) < (L.length : Int) := by omega
      have HX := Lib.hid (show (L.getD k zO) = L.getD k zO from rfl)
      clear hcs1 hx1 hv1
      obtain ⟨x, hx⟩ : ∃ x, L.getD k zO = x := ⟨_, rfl⟩
      rw [hx] at y0 y1 y2 y3
      have HXE := Lib.hid hx
      clear hx HX
      have HO := Lib.hid (Cs.new wr wr.heap.size #[.int .i64 x.a, .int .i64 x.b, .int .i64 x.c, .int .i64 x.d] 32 rfl)
      have HBo := Lib.hid (al wr (.cells #[.int .i64 x.a, .int .i64 x.b, .int .i64 x.c, .int .i64 x.d] 32))
      have HCw := Lib.hid ((HC.out.step HW.out).step HBo.out)
      have o0 := HO.out.c 0 rfl
      have o1 := HO.out.c 1 rfl
      have o2 := HO.out.c 2 rfl
      have o3 := HO.out.c 3 rfl
      have oz := HO.out.2.2
      by_cases he : x.a = seq
      · have HF := Lib.hid (show fdI seq L 0 = some k from fdI_some.2 ⟨by omega, by omega, by rw [Nat.sub_zero, HXE.out]; exact he, fun j hj => HN.out j (by omega)⟩)
        have HD := Lib.hid (decide_eq_true he)
        clear he HN
        go_wp2_with fail
        refine (confirm1_any x seq B _ HCw.out true HD.out).mono ?_
        rintro e w2 ⟨rfl, b2⟩
        have HW2 := Lib.hid (HW.out.trans ((keep2 b2 HBo.out).mono HW.out.size))
        clear b2 y0 y1 y2 y3 yz o0 o1 o2 o3 oz
        go_wp2
        exact bodyPost_ret (v := .tuple #[.int .i64 k, .bool true]) (by simp [results, Try.results37, go_sem]) rfl ⟨by rw [HF.out]; rfl, HW2.out⟩
      · have HN2 := Lib.hid (show ∀ j, j < k + 1 → (L.getD j zO).a ≠ seq from fun j h => by
          by_cases e : j = k
          · subst e; rw [HXE.out]; exact he
          · exact HN.out j (by omega))
        have HD := Lib.hid (decide_eq_false he)
        clear he HN
        go_wp2_with fail
        refine (confirm1_any x seq B _ HCw.out false HD.out).mono ?_
        rintro e w2 ⟨rfl, b2⟩
        have HW2 := Lib.hid (HW.out.trans ((keep2 b2 HBo.out).mono HW.out.size))
        clear b2 y0 y1 y2 y3 yz o0 o1 o2 o3 oz
        go_wp2
        go_roundw
        case rel => exact ⟨k + 1, hlt, by go_num, HN2, HW2⟩
        case measure => simp [intOf]; omega
    · have HF := Lib.hid (show fdI seq L 0 = none from fdI_none.2 fun j hj => HN.out j (by omega))
      clear HN
      go_wp2
      exact bodyPost_ret (v := .tuple #[.int .i64 0, .bool false]) (by simp [results, Try.results37, go_sem]) rfl ⟨by rw [HF.out]; rfl, HW.out⟩
end Go.Proofs.Ytkamkkjijjkfdaa
