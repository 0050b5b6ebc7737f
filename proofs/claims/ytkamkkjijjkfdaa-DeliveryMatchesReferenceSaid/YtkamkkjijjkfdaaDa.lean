/- Delivery: the small functions, 'find', 'areValues', 'isOrder'. -/
import Derived.Test.YtkamkkjijjkfdaaVb
namespace Go.Proofs.Ytkamkkjijjkfdaa
open Go.RowKit

def inr (n lo hi : Int) : Bool := decide (lo ≤ n) && decide (n ≤ hi)
theorem inr_iff {n lo hi : Int} : inr n lo hi = true ↔ lo ≤ n ∧ n ≤ hi := by unfold inr; simp
theorem inr_no {n lo hi : Int} : inr n lo hi = false ↔ ¬ (lo ≤ n ∧ n ≤ hi) := by rw [← Bool.not_eq_true, inr_iff]
def ba (x : Int) : Bool := !inr x 0 15
theorem within2_any (n m : Int) (w : World) : Calls Try.prog 47 #[.int .i64 n, .int .i64 m] w fun e w' => e = .returned (.bool (inr n 0 m)) ∧ w = w' := by
  unfold inr
  cases h : decide (0 ≤ n)
  · go_enter Try.func47, Try.ntmps47
    go_wp2
    go_ret
    exact ⟨rfl, rfl⟩
  · go_enter Try.func47, Try.ntmps47
    go_wp2
    go_ret
    exact ⟨rfl, rfl⟩
theorem isValue_any (n : Int) (w : World) : Calls Try.prog 48 #[.int .i64 n] w fun e w' => e = .returned (.bool (inr n 0 15)) ∧ w = w' := by
  go_enter Try.func48, Try.ntmps48
  go_wp2_with fail
  refine (within2_any n 15 _).mono ?_
  rintro e w' ⟨rfl, rfl⟩
  go_wp2
  go_ret
  exact ⟨rfl, rfl⟩
theorem bad1_any (n : Int) (w : World) : Calls Try.prog 54 #[.int .i64 n] w fun e w' => e = .returned (.bool (ba n)) ∧ w = w' := by
  go_enter Try.func54, Try.ntmps54
  go_wp2_with fail
  refine (isValue_any n _).mono ?_
  rintro e w' ⟨rfl, rfl⟩
  go_wp2
  go_ret
  exact ⟨rfl, rfl⟩
theorem ba_hit {l : List Int} {k : Nat} (h : k < l.length) (hb : ba (l.getD k 0) = true) : l.any ba = true := by
  rw [List.any_eq_true]
  exact ⟨l.getD k 0, List.mem_of_getElem? (getD_of h), hb⟩
theorem ba_none {l : List Int} (h : ∀ j, j < l.length → ba (l.getD j 0) = false) : l.any ba = false := by
  rw [List.any_eq_false]
  intro x hx
  obtain ⟨j, hj⟩ := List.getElem?_of_mem hx
  have h1 : j < l.length := (List.getElem?_eq_some_iff.1 hj).1
  have h2 := h j h1
  have h3 := getD_of h1
  rw [h3] at hj
  rw [← Option.some.inj hj, h2]
  exact Bool.false_ne_true
def vaB (l : List Int) : Bool := decide (l.length ≤ 1200) && !l.any ba
set_option maxRecDepth 100000 in
set_option maxHeartbeats 2000000 in
theorem find_any (v : Value) (l : List Int) (w : World) (h : IntsAt w v l) :
    Calls Try.prog 53 #[v, .func (.func 54) #[] #[]] w fun e w' => (∃ k : Int, e = .returned (.tuple #[.int .i64 k, .bool (l.any ba)])) ∧ Below w.heap.size w w' := by
  have HL := Lib.hid h
  obtain ⟨a, cap, rfl, hm, hc⟩ := h
  unfold maxLen at hm
  clear hc
  have heg : ∀ args w, (callFunc 54 args).run Try.prog w = .ok (.enter 54 args) w := fun _ _ => by kernel_rfl
  go_enter Try.func53, Try.ntmps53
  go_wp2_with fail
  go_loopw [10] (fun i wr => ∃ k : Nat, k ≤ l.length ∧ i = .int .i64 k ∧ Hid (∀ j, j < k → ba (l.getD j 0) = false) ∧ Hid (Below w.heap.size w wr)) (fun i _ => l.length - (intOf i).toNat)
  case atStart => exact ⟨0, by omega, rfl, fun j h => absurd h (by omega), Below.refl _ _⟩
  case round =>
    obtain ⟨k, hk, rfl, HN, HB⟩ := hrel
    by_cases hlt : k < l.length
    · obtain ⟨a2, cap2, hva, -, hcs⟩ := HL.out.step HB.out
      obtain ⟨rfl, rfl⟩ : a = a2 ∧ cap = cap2 := by simpa using hva
      obtain ⟨b, off, rfl, hcs2⟩ := hcs (by intro h; rw [h] at hlt; simp at hlt)
      have x0 := hcs2 k _ (getD_of hlt)
      clear hcs hcs2 hva
      cases hf : ba (l.getD k 0)
      · have HF := Lib.hid hf
        have HN2 := Lib.hid (show ∀ j, j < k + 1 → ba (l.getD j 0) = false from fun j h => by
          by_cases e : j = k
          · subst e; exact hf
          · exact HN.out j (by omega))
        clear hf HN
        generalize l.getD k 0 = x at *
        go_wp2_with (go_at_call 54; go_must (refine (bad1_any x _).mono ?_); rintro e w' ⟨rfl, rfl⟩; rw [HF.out])
        go_roundw
        case rel => exact ⟨k + 1, by omega, by go_num, HN2, HB⟩
        case measure => simp [intOf]; omega
      · have HF := Lib.hid hf
        have HA := Lib.hid (ba_hit hlt hf)
        clear hf HN
        generalize l.getD k 0 = x at *
        go_wp2_with (go_at_call 54; go_must (refine (bad1_any x _).mono ?_); rintro e w' ⟨rfl, rfl⟩; rw [HF.out])
        exact bodyPost_ret (v := .tuple #[.int .i64 k, .bool true]) (by simp [results, Try.results53, go_sem]) rfl ⟨⟨k, by rw [HA.out]⟩, HB.out⟩
    · have HF := Lib.hid (ba_none fun j hj => HN.out j (by omega))
      go_wp2
      exact bodyPost_ret (v := .tuple #[.int .i64 0, .bool false]) (by simp [results, Try.results53, go_sem]) rfl ⟨⟨0, by rw [HF.out]⟩, HB.out⟩
set_option maxRecDepth 100000 in
set_option maxHeartbeats 2000000 in
theorem areValues_any (v : Value) (l : List Int) (w : World) (h : IntsAt w v l) :
    Calls Try.prog 40 #[v] w fun e w' => e = .returned (.bool (vaB l)) ∧ Below w.heap.size w w' := by
  have HL := Lib.hid h
  obtain ⟨a, cap, rfl, hm, hc⟩ := h
  unfold maxLen at hm
  clear hc
  go_enter Try.func40, Try.ntmps40
  go_wp2_with fail
  refine (find_any (.slice a l.length cap) l _ HL.out).mono ?_
  rintro e w' ⟨⟨k, rfl⟩, b1⟩
  have HB := Lib.hid b1
  clear b1
  have HV := Lib.hid (show vaB l = (decide ((l.length : Int) ≤ 1200) && !l.any ba) from by unfold vaB; congr 1; simp only [decide_eq_decide]; omega)
  generalize l.any ba = bb at *
  cases hq : decide ((l.length : Int) ≤ 1200)
  · rw [hq] at HV
    go_wp2
    go_ret
    exact ⟨ret_bool HV.out.symm, HB.out⟩
  · rw [hq] at HV
    go_wp2
    go_ret
    exact ⟨ret_bool HV.out.symm, HB.out⟩
set_option maxRecDepth 100000 in
set_option maxHeartbeats 2000000 in
theorem isOrder_any (a b c d : Int) (w : World) : Calls Try.prog 30 #[.agg #[.int .i64 a, .int .i64 b, .int .i64 c, .int .i64 d]] w fun e w' => e = .returned (.bool (inr a 0 1000000 && (inr b 0 1000000000 && (inr c 0 1199 && inr d 0 15)))) ∧ Below w.heap.size w w' := by
  have HC := Lib.hid (Cs.new w w.heap.size #[.int .i64 a, .int .i64 b, .int .i64 c, .int .i64 d] 32 rfl)
  have HB := Lib.hid (al w (.cells #[.int .i64 a, .int .i64 b, .int .i64 c, .int .i64 d] 32))
  go_enter Try.func30, Try.ntmps30
  go_wp2_with fail
  refine (within2_any a 1000000 _).mono ?_
  rintro e w' ⟨rfl, rfl⟩
  cases h1 : inr a 0 1000000
  · go_wp2
    go_ret
    exact ⟨ret_bool (by simp [h1]), HB.out⟩
  go_wp2_with fail
  refine (within2_any b 1000000000 _).mono ?_
  rintro e w' ⟨rfl, rfl⟩
  cases h2 : inr b 0 1000000000
  · go_wp2
    go_ret
    exact ⟨ret_bool (by simp [h1, h2]), HB.out⟩
  go_wp2_with fail
  refine (within2_any c 1199 _).mono ?_
  rintro e w' ⟨rfl, rfl⟩
  cases h3 : inr c 0 1199
  · go_wp2
    go_ret
    exact ⟨ret_bool (by simp [h1, h2, h3]), HB.out⟩
  go_wp2_with fail
  refine (isValue_any d _).mono ?_
  rintro e w' ⟨rfl, rfl⟩
  go_wp2
  go_ret
  exact ⟨ret_bool (by simp [h1, h2, h3]), HB.out⟩
end Go.Proofs.Ytkamkkjijjkfdaa
