/- The contract of 'decimal' of the statements. -/
import Derived.Test.YtaokedpcijmncaaDoorH
namespace Go.Proofs.YtaokedpcijmncaaDoor
open Go.RowKit Go.Maps

/-- The decimal digits of a number. -/
def digN : Nat → Nat → List UInt8
  | 0, _ => []
  | f + 1, n => (if n > 9 then digN f (n / 10) else []) ++ [UInt8.ofNat (48 + n % 10)]
/-- The digits as a text. -/
def digS (f n : Nat) : ByteArray := ⟨(digN f n).toArray⟩
theorem ret_str {a b : ByteArray} (h : a = b) : Ending.returned (.string a) = .returned (.string b) := by rw [h]
theorem digN_len (f n : Nat) : (digN f n).length ≤ f := by
  induction f generalizing n with
  | zero => simp [digN]
  | succ f ih =>
    unfold digN
    have := ih (n / 10)
    split <;> simp <;> omega
theorem digS_size (f n : Nat) : (digS f n).size ≤ f := digN_len f n
/-- One digit as a text. -/
def dig1 (n : Nat) : ByteArray := ⟨[UInt8.ofNat (48 + n % 10)].toArray⟩
theorem conv15 (n : Int) (w : World) (h0 : 0 ≤ n) :
    (convert 41 9 (.slice (some ⟨w.heap.size, 0, none⟩) 1 1)).run Tryd.prog (w.alloc (.cells #[.int .u8 (48 + n % 10)] 5)) = .ok (.string (dig1 n.toNat)) (w.alloc (.cells #[.int .u8 (48 + n % 10)] 5)) := by
  refine run_convert_bytes_back (P := Tryd.prog) (w.alloc (.cells #[.int .u8 (48 + n % 10)] 5)) 41 9 5 ⟨w.heap.size, 0, none⟩ 1 [UInt8.ofNat (48 + n.toNat % 10)] Tryd.underlying41 Tryd.underlying5 Tryd.underlying9 (fun j hj => ?_)
  obtain rfl : j = 0 := by simpa using hj
  have hadd : (⟨w.heap.size, 0, none⟩ : Addr).add 0 = ⟨w.heap.size, 0, none⟩ := by unfold Addr.add; split <;> simp_all
  rw [hadd, World.cell?_alloc_new]
  simp [UInt8.toNat_ofNat]
  omega

set_option maxHeartbeats 1000000 in
theorem decimal15 (f : Nat) (hf : f ≤ 20) : ∀ (n : Int) (w : World), 0 ≤ n → n ≤ 1000000000 → n < 10 ^ (f + 1) →
    Calls Tryd.prog 15 #[.int .i64 n] w fun e w' => e = .returned (.string (digS (f + 1) n.toNat)) ∧ Below w.heap.size w w' := by
  induction f with
  | zero =>
    intro n w h0 h1 h2
    have h9 : n ≤ 9 := by simp at h2; omega
    have hc := conv15 n w h0
    have HF := Lib.hid (show digS 1 n.toNat = dig1 n.toNat by unfold digS digN; rw [if_neg (by omega)]; rfl)
    go_enter Tryd.func15, Tryd.ntmps15
    go_wp2_with fail
    go_ret
    exact ⟨ret_str HF.out.symm, (Below.refl _ _).alloc (Nat.le_refl _) _⟩
  | succ f ih =>
    intro n w h0 h1 h2
    have hc := conv15 n w h0
    by_cases h9 : n ≤ 9
    · have HF := Lib.hid (show digS (f + 1 + 1) n.toNat = dig1 n.toNat by unfold digS digN; rw [if_neg (by omega)]; rfl)
      clear ih
      go_enter Tryd.func15, Tryd.ntmps15
      go_wp2_with fail
      go_ret
      exact ⟨ret_str HF.out.symm, (Below.refl _ _).alloc (Nat.le_refl _) _⟩
    · have HI := Lib.hid (ih (by omega))
      have h3 : n / 10 < 10 ^ (f + 1) := by rw [Int.pow_succ] at h2; omega
      have hs1 := digS_size (f + 1) (n / 10).toNat
      have hs2 : (dig1 n.toNat).size = 1 := rfl
      have HF := Lib.hid (show digS (f + 1 + 1) n.toNat = digS (f + 1) (n / 10).toNat ++ dig1 n.toNat by
        unfold digS
        rw [digN, if_pos (by omega), show (n / 10).toNat = n.toNat / 10 by omega]
        apply ByteArray.ext
        simp [dig1])
      clear ih h2
      go_enter Tryd.func15, Tryd.ntmps15
      go_wp2_with fail
      refine (HI.out (n / 10) _ (by omega) (by omega) h3).mono ?_
      rintro e w1 ⟨rfl, hb⟩
      go_wp2_with fail
      go_ret
      exact ⟨ret_str HF.out.symm, ((Below.refl _ _).alloc (Nat.le_refl _) _).trans (hb.mono (by simp))⟩
end Go.Proofs.YtaokedpcijmncaaDoor
