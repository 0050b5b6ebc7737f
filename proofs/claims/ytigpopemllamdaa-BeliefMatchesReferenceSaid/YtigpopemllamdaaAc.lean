/- Beliefs: the first order that fits. -/
import Derived.Test.YtigpopemllamdaaDh
namespace Go.Proofs.Ytigpopemllamdaa
open Go.RowKit

/-- A function of an order that answers 'p', in every later world. -/
def Fits (n : Nat) (caps : Array Value) (p : Od → Bool) (w : World) : Prop :=
  ∀ (x : Od) (w1 : World), Below w.heap.size w w1 → Calls Try.prog n (#[.agg #[.int .i64 x.a, .int .i64 x.b, .int .i64 x.c, .int .i64 x.d]] ++ caps) w1 fun e w2 => e = .returned (.bool (p x)) ∧ Below w1.heap.size w1 w2
theorem Fits.step {n : Nat} {caps : Array Value} {p : Od → Bool} {w w1 : World} (h : Fits n caps p w) (hb : Below w.heap.size w w1) : Fits n caps p w1 :=
  fun x w2 h2 => h x w2 (keep2 h2 hb)
/-- The first that fits. -/
def fsI (p : Od → Bool) : List Od → Nat → Option Nat
  | [], _ => none
  | x :: L, k => if p x then some k else fsI p L (k + 1)
theorem fsI_none {p : Od → Bool} {L : List Od} {k : Nat} : fsI p L k = none ↔ ∀ j, j < L.length → p (L.getD j zO) = false := by
  induction L generalizing k with
  | nil => simp [fsI]
  | cons x L ih =>
    unfold fsI
    by_cases h : p x = true
    · rw [if_pos h]
      constructor
      · intro e; cases e
      · intro e; have := e 0 (by simp); simp [h] at this
    · rw [if_neg h, ih]
      constructor
      · intro e j hj
        cases j with
        | zero => simpa using h
        | succ j => exact e j (by simpa using hj)
      · intro e j hj
        exact e (j + 1) (by simpa using hj)
theorem fsI_some {p : Od → Bool} {L : List Od} {k i : Nat} : fsI p L k = some i ↔ k ≤ i ∧ i - k < L.length ∧ p (L.getD (i - k) zO) = true ∧ ∀ j, j < i - k → p (L.getD j zO) = false := by
  induction L generalizing k with
  | nil => simp [fsI]
  | cons x L ih =>
    unfold fsI
    by_cases h : p x = true
    · rw [if_pos h]
      constructor
      · intro e; cases e
        exact ⟨Nat.le_refl _, by simp, by simpa using h, fun j hj => by omega⟩
      · rintro ⟨h1, h2, h3, h4⟩
        by_cases e : i = k
        · rw [e]
        · have := h4 0 (by omega); simp [h] at this
    · rw [if_neg h, ih]
      constructor
      · rintro ⟨h1, h2, h3, h4⟩
        have e : i - k = (i - (k + 1)) + 1 := by omega
        refine ⟨by omega, by rw [e]; simpa using h2, by rw [e]; simpa using h3, fun j hj => ?_⟩
        cases j with
        | zero => simpa using h
        | succ j => exact h4 j (by omega)
      · rintro ⟨h1, h2, h3, h4⟩
        have hk : i ≠ k := by
          intro e; subst e
          rw [Nat.sub_self] at h3
          exact h h3
        have e : i - k = (i - (k + 1)) + 1 := by omega
        refine ⟨by omega, by rw [e] at h2; simpa using h2, by rw [e] at h3; simpa using h3, fun j hj => ?_⟩
        exact h4 (j + 1) (by omega)
theorem fsI_any {p : Od → Bool} {L : List Od} {k : Nat} : (fsI p L k).isSome = L.any p := by
  induction L generalizing k with
  | nil => rfl
  | cons x L ih =>
    unfold fsI
    by_cases h : p x = true
    · simp [h]
    · rw [if_neg h, ih]; simp [h]
/-- Its place, or -1. -/
def fsP (p : Od → Bool) (L : List Od) : Int := match fsI p L 0 with
  | some i => i
  | none => -1
theorem fsP_ge {p : Od → Bool} {L : List Od} : decide (0 ≤ fsP p L) = L.any p := by
  rw [← fsI_any (k := 0)]
  unfold fsP
  cases fsI p L 0 <;> simp
set_option maxRecDepth 100000 in
set_option maxHeartbeats 8000000 in
theorem index_any (v : Value) (L : List Od) (n : Nat) (caps : Array Value) (p : Od → Bool) (w : World) (h : OdsAt w v L) (hf : Fits n caps p w) (heg : ∀ args w, (callFunc n args).run Try.prog w = .ok (.enter n args) w) :
    Calls Try.prog 58 #[v, .func (.func n) #[] caps] w fun e w' => e = .returned (.int .i64 (fsP p L)) ∧ Below w.heap.size w w' := by
  have HL := Lib.hid h
  have HF := Lib.hid hf
  obtain ⟨sa, sc, rfl, -, hm, -⟩ := h
  unfold maxLen at hm
  clear hf
  go_enter Try.func58, Try.ntmps58
  go_wp2_with fail
  go_loopw [8] (fun iv wr => ∃ k : Nat, k ≤ L.length ∧ iv = .int .i64 k ∧ Hid (∀ j, j < k → p (L.getD j zO) = false) ∧ Hid (Below w.heap.size w wr)) (fun iv _ => L.length - (intOf iv).toNat)
  case atStart => exact ⟨0, by omega, rfl, Lib.hid (fun j h => absurd h (by omega)), Lib.hid (Below.refl _ _)⟩
  case round =>
    obtain ⟨k, hk, rfl, HN, HW⟩ := hrel
    by_cases hlt : k < L.length
    · obtain ⟨a1, c1, hv1, -, -, hcs1⟩ := HL.out.step HW.out
      obtain ⟨rfl, rfl⟩ : sa = a1 ∧ sc = c1 := by simpa using hv1
      obtain ⟨b1, o1, rfl, hx1⟩ := hcs1 (by intro e; rw [e] at hlt; simp at hlt)
      obtain ⟨y0, y1, y2, y3⟩ := hx1 k _ (od_get hlt)
      have yz : b1 < wr.heap.size := World.block_lt_of_cell? _ _ y0
      have t1 : (k : Int) < (L.length : Int) := by omega
      have HX := Lib.hid (show (L.getD k zO) = L.getD k zO from rfl)
      clear hcs1 hx1 hv1
      obtain ⟨x, hx⟩ : ∃ x, L.getD k zO = x := ⟨_, rfl⟩
      rw [hx] at y0 y1 y2 y3
      have HXE := Lib.hid hx
      clear hx HX
      cases he : p x with
      | true =>
        have HP := Lib.hid (show fsP p L = k by
          unfold fsP
          rw [fsI_some.2 ⟨Nat.zero_le k, by simpa using hlt, by rw [Nat.sub_zero, HXE.out]; exact he, fun j hj => HN.out j (by omega)⟩])
        have HD := Lib.hid he
        clear he HN
        go_wp2_with fail
        refine (HF.out x _ HW.out).mono ?_
        rintro e w2 ⟨rfl, b2⟩
        have HW2 := Lib.hid (keep2 b2 HW.out)
        clear b2 y0 y1 y2 y3 yz
        rw [HD.out]
        go_wp2
        exact bodyPost_ret (v := .int .i64 k) (by simp [results, Try.results58, go_sem]) rfl ⟨by rw [HP.out], HW2.out⟩
      | false =>
        have HN2 := Lib.hid (show ∀ j, j < k + 1 → p (L.getD j zO) = false from fun j h => by
          by_cases e : j = k
          · subst e; rw [HXE.out]; exact he
          · exact HN.out j (by omega))
        have HD := Lib.hid he
        clear he HN
        go_wp2_with fail
        refine (HF.out x _ HW.out).mono ?_
        rintro e w2 ⟨rfl, b2⟩
        have HW2 := Lib.hid (keep2 b2 HW.out)
        clear b2 y0 y1 y2 y3 yz
        rw [HD.out]
        go_wp2
        go_roundw
        case rel => exact ⟨k + 1, hlt, by go_num, HN2, HW2⟩
        case measure => simp [intOf]; omega
    · have HP := Lib.hid (show fsP p L = -1 by
        unfold fsP
        rw [fsI_none.2 fun j hj => HN.out j (by omega)])
      clear HN
      go_wp2
      exact bodyPost_ret (v := .int .i64 (-1)) (by simp [results, Try.results58, go_sem]) rfl ⟨by rw [HP.out], HW.out⟩
end Go.Proofs.Ytigpopemllamdaa
