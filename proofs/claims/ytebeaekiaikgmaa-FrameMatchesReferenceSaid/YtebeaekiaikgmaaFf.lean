/- Frames as bytes: 'number', 'Equal'. -/
import Derived.Test.YtebeaekiaikgmaaFe
import Derived.Laws.BitsLemmas
namespace Go.Proofs.Ytebeaekiaikgmaa
open Go.RowKit

/-- The number in four bytes. -/
def num4 (l : List Int) (k : Nat) : Int := ((l.getD k 0 * 256 + l.getD (k + 1) 0) * 256 + l.getD (k + 2) 0) * 256 + l.getD (k + 3) 0
theorem by_get {l : List Int} (h : IsBy l) (k : Nat) : 0 ≤ l.getD k 0 ∧ l.getD k 0 ≤ 255 := by
  by_cases hk : k < l.length
  · exact h _ (List.mem_of_getElem? (getD_of hk))
  · rw [show l.getD k 0 = 0 by simp [List.getD_eq_getElem?_getD, List.getElem?_eq_none (by omega : l.length ≤ k)]]
    omega
theorem num4_bd {l : List Int} (h : IsBy l) (k : Nat) : 0 ≤ num4 l k ∧ num4 l k < 4294967296 := by
  unfold num4
  have h0 := by_get h k
  have h1 := by_get h (k + 1)
  have h2 := by_get h (k + 2)
  have h3 := by_get h (k + 3)
  omega
def numJ (l : List Int) (k : Nat) : Nat → Int
  | 0 => 0
  | j + 1 => numJ l k j * 256 + l.getD (k + j) 0
theorem numJ_bd {l : List Int} (h : IsBy l) (k : Nat) : ∀ j, 0 ≤ numJ l k j ∧ numJ l k j < 256 ^ j
  | 0 => by simp [numJ]
  | j + 1 => by
    have h1 := numJ_bd h k j
    have h2 := by_get h (k + j)
    rw [numJ, Int.pow_succ]
    omega
theorem or_i64 {x y : Int} (h0 : 0 ≤ x) (h1 : x < 256 ^ 4) (g0 : 0 ≤ y) (g1 : y ≤ 255) : bits .or .i64 (x * 256) y = x * 256 + y :=
  bits_join .i64 62 (by decide) (fun n a b => IntWalk.i64_in _ (by omega)) 8 (x * 256) y (by omega) (by omega) (by omega) g0 (by omega) (by omega)
theorem num4_is (l : List Int) (k : Nat) : numJ l k 4 = num4 l k := by simp [numJ, num4]
set_option maxRecDepth 100000 in
set_option maxHeartbeats 8000000 in
theorem number_any (v : Value) (l : List Int) (k : Nat) (w : World) (h : BysAt w v l) (hb : IsBy l) (hk : k + 4 ≤ l.length) (h9 : l.length ≤ 2000) : Calls Try.prog 39 #[v, .int .i64 k] w fun e w' => e = .returned (.int .i64 (num4 l k)) ∧ w = w' := by
  obtain ⟨a, cap, rfl, hcp, hm, hc⟩ := h
  obtain ⟨b, off, rfl, hx⟩ := hc (by intro e; rw [e] at hk; simp at hk)
  have x0 := hx k _ (getD_of (show k < l.length by omega))
  have x1 := hx (k + 1) _ (getD_of (show k + 1 < l.length by omega))
  have x2 := hx (k + 2) _ (getD_of (show k + 2 < l.length by omega))
  have x3 := hx (k + 3) _ (getD_of (show k + 3 < l.length by omega))
  have HB := Lib.hid hb
  have hbg := Lib.hid (by_get hb)
  have HX := Lib.hid hx
  have HK := Lib.hid (show k + 4 ≤ l.length ∧ l.length ≤ 2000 from ⟨hk, h9⟩)
  have e1 : wrap64 ((k : Int) + 4) = k + 4 := IntWalk.wrap64_in _ (by omega)
  have e2 : (0 : Int) ≤ k := by omega
  have e3 : (k : Int) ≤ k + 4 := by omega
  have e4 : (k : Int) + 4 ≤ cap := by omega
  have e5 : ((k : Int) + 4).toNat = k + 4 := by omega
  have e6 : ¬ cap = k := by omega
  have e7 : k + 4 ≤ cap := by omega
  have e8 : k + 4 - k = 4 := by omega
  clear hc hx hb hm
  go_enter Try.func39, Try.ntmps39
  go_wp2_with fail
  go_loop [5, 14] (fun nv jv => ∃ j : Nat, j ≤ 4 ∧ jv = .int .i64 j ∧ nv = .int .i64 (numJ l k j)) (fun _ jv => 4 - (intOf jv).toNat)
  case atStart => exact ⟨0, by omega, rfl, rfl⟩
  case round =>
    obtain ⟨j, hj, rfl, rfl⟩ := hrel
    by_cases hlt : j < 4
    · have y0 := HX.out (k + j) _ (getD_of (show k + j < l.length by have := HK.out; omega))
      have HS := Lib.hid (show numJ l k (j + 1) = numJ l k j * 256 + l.getD (k + j) 0 from rfl)
      have HNB := Lib.hid (numJ_bd HB.out k j)
      have HCB := hbg.out (k + j)
      obtain ⟨c, hc⟩ : ∃ c, l.getD (k + j) 0 = c := ⟨_, rfl⟩
      obtain ⟨n, hn⟩ : ∃ n, numJ l k j = n := ⟨_, rfl⟩
      rw [hc] at y0 HS HCB
      rw [hn] at HS HNB ⊢
      clear hc hn
      have t1 : (j : Int) < 4 := by omega
      have t2 : decide ((j : Int) < 4) = true := by simp; omega
      have t3 : off + k + j = off + (k + j) := by omega
      have y1 : w.cell? ⟨b, off + k + j, none⟩ = some (.int .u8 c) := by rw [t3]; exact y0
      clear t3 y0
      have hn3 : n < 256 ^ 3 := by
        have h1 := HNB.out.2
        have h2 : (256 : Int) ^ j ≤ 256 ^ 3 := by
          obtain rfl | rfl | rfl | rfl : j = 0 ∨ j = 1 ∨ j = 2 ∨ j = 3 := by omega
          all_goals decide
        omega
      have q1 : wrap64 (n * 256) = n * 256 := IntWalk.wrap64_in _ (by have := HNB.out.1; omega)
      have q2 : bits .or .i64 (n * 256) c = n * 256 + c := or_i64 HNB.out.1 (by omega) HCB.1 HCB.2
      clear hn3
      go_wp2
      go_round
      case rel => exact ⟨j + 1, by omega, by go_num, by rw [HS.out]⟩
      case measure => simp [intOf]; omega
    · obtain rfl : j = 4 := by omega
      have HE := Lib.hid (num4_is l k)
      have t2 : decide (((4 : Nat) : Int) < 4) = false := by simp
      go_wp2
      go_ret
      exact ⟨ret_int HE.out, rfl⟩
theorem number_at (v : Value) (l : List Int) (k : Nat) (ki : Int) (w : World) (h : BysAt w v l) (hb : IsBy l) (hki : ki = k) (hk : k + 4 ≤ l.length) (h9 : l.length ≤ 2000) : Calls Try.prog 39 #[v, .int .i64 ki] w fun e w' => e = .returned (.int .i64 (num4 l k)) ∧ w = w' := by
  subst hki
  exact number_any v l k w h hb hk h9
end Go.Proofs.Ytebeaekiaikgmaa
