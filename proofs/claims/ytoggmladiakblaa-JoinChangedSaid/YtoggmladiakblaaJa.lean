/- A side of a join behind a pointer: 'isAcceptable', 'key', 'proof', 'isValid'. -/
import Derived.Test.YtoggmladiakblaaCq
import Derived.Test.YtoggmladiakblaaCd
import Derived.Deep.RegionHeld3
namespace Go.Proofs.Ytoggmladiakblaa
open Go.RowKit

def accB (n : Int) : Bool := decide (2 ≤ n ∧ n ≤ 2147483645)
theorem acc_cases (n : Int) : (accB n = false ∧ decide (2 ≤ n) = false) ∨ (accB n = decide (n ≤ 2147483645) ∧ decide (2 ≤ n) = true) := by
  unfold accB
  by_cases h : 2 ≤ n
  · exact .inr ⟨by simp [h], by simpa using h⟩
  · exact .inl ⟨by simp [h], by simpa using h⟩
theorem acc_any (n : Int) (w : World) : Calls Try.prog 36 #[.int .i64 n] w fun e w' => e = .returned (.bool (accB n)) ∧ w = w' := by
  rcases acc_cases n with ⟨h, h1⟩ | ⟨h, h1⟩ <;> rw [h] <;> clear h
  · go_enter Try.func36, Try.ntmps36
    go_wp2
    go_ret
    exact ⟨rfl, rfl⟩
  · go_enter Try.func36, Try.ntmps36
    go_wp2
    go_ret
    exact ⟨rfl, rfl⟩
theorem racc_any (n : Int) (w : World) : Calls Try.prog 16 #[.int .i64 n] w fun e w' => e = .returned (.bool (accB n)) ∧ w = w' := by
  rcases acc_cases n with ⟨h, h1⟩ | ⟨h, h1⟩ <;> rw [h] <;> clear h
  · go_enter Try.func16, Try.ntmps16
    go_wp2
    go_ret
    exact ⟨rfl, rfl⟩
  · go_enter Try.func16, Try.ntmps16
    go_wp2
    go_ret
    exact ⟨rfl, rfl⟩
/-- The cells of a side. -/
abbrev jc (c s m o k : Int) (h d : Bool) : Array Value := #[.int .i64 c, .int .i64 s, .int .i64 m, .int .i64 o, .int .i64 k, .bool h, .bool d]
abbrev hc3 (a b c : Int) : Array Value := #[.int .i64 a, .int .i64 b, .int .i64 c]
/-- The proof of a side, with a mark. -/
def prf (c s m o : Int) (h : Bool) (mark : Int) : Int := Dg [c, 4, mark, if h then o else m, if h then m else o, pw o s]
theorem shared_q (s p : Int) (w : World) (n : Nat) : Calls Try.prog 45 #[.int .i64 s, .int .i64 p] (w.drewN n) fun e w' => e = .returned (.int .i64 (pw p s)) ∧ w' = w.drewN n := (shared_any s p _).mono fun _ _ h => ⟨h.1, h.2.symm⟩
theorem public_q (s : Int) (w : World) (n : Nat) : Calls Try.prog 22 #[.int .i64 s] (w.drewN n) fun e w' => e = .returned (.int .i64 (pw 7 s)) ∧ w' = w.drewN n := (public_any s _).mono fun _ _ h => ⟨h.1, h.2.symm⟩
theorem acc_q (s : Int) (b : Bool) (hb : accB s = b) (w : World) (n : Nat) : Calls Try.prog 36 #[.int .i64 s] (w.drewN n) fun e w' => e = .returned (.bool b) ∧ w' = w.drewN n := (acc_any s _).mono fun _ _ h => ⟨by rw [h.1, hb], h.2.symm⟩
theorem key_any (b : Nat) (c s m o k : Int) (h d : Bool) (w : World) (hc : Cs w b (jc c s m o k h d)) : Calls Try.prog 37 #[.pointer (some ⟨b, 0, none⟩)] w fun e w' => e = .returned (.int .i64 (pw o s)) ∧ ∃ n, w' = w.drewN n := by
  have c1 := hc.c 1 rfl
  have c3 := hc.c 3 rfl
  clear hc
  go_enter Try.func37, Try.ntmps37
  go_wp2_with fail
  go_quiet ((go_at_call 45; exact Calls.quiet_of_same (shared_q _ _ _ _)))
  go_wp2
  go_ret
  exact ⟨rfl, _, rfl⟩
theorem key_b (b : Nat) (c s m o k : Int) (h d : Bool) (w : World) (hc : Cs w b (jc c s m o k h d)) : Calls Try.prog 37 #[.pointer (some ⟨b, 0, none⟩)] w fun e w' => e = .returned (.int .i64 (pw o s)) ∧ Below w.heap.size w w' :=
  (key_any b c s m o k h d w hc).mono fun _ _ ⟨h1, n, h2⟩ => ⟨h1, by rw [h2]; exact below_drewN' _ _ _⟩
set_option maxRecDepth 100000 in
set_option maxHeartbeats 4000000 in
theorem proof_any (b : Nat) (c s m o k : Int) (h d : Bool) (mark : Int) (w : World) (hc : Cs w b (jc c s m o k h d)) : Calls Try.prog 38 #[.pointer (some ⟨b, 0, none⟩), .int .i64 mark] w fun e w' => e = .returned (.int .i64 (prf c s m o h mark)) ∧ Below w.heap.size w w' := by
  have HC := Lib.hid hc
  have c0 := hc.c 0 rfl
  have c2 := hc.c 2 rfl
  have c3 := hc.c 3 rfl
  have c5 := hc.c 5 rfl
  clear hc
  cases h
  · go_enter Try.func38, Try.ntmps38
    go_wp2_with fail
    go_quiet (fail)
    go_wp2_with fail
    have HD := Lib.hid (show ∀ W : World, IntsAt (W.alloc (.cells #[.int .i64 mark, .int .i64 m, .int .i64 o, .int .i64 (pw o s)] 3)) (.slice (some ⟨W.heap.size, 0, none⟩) 4 4) [mark, m, o, pw o s] from fun W => ints_lit W [mark, m, o, pw o s] #[.int .i64 mark, .int .i64 m, .int .i64 o, .int .i64 (pw o s)] 3 rfl (by simp) 4 rfl _ rfl)
    have HB := Lib.hid (below_drewN' w.heap.size w nq)
    have hC : Cs (w.drewN nq) b (jc c s m o k false d) := HC.out.step (below_drewN' _ _ _)
    have C0 : (w.drewN nq).cell? ⟨b, 0, none⟩ = some (.int .i64 c) := c0
    generalize w.drewN nq = w1 at *
    have HC1 := Lib.hid hC
    clear hC HC
    have hS : (fun w' : World => Below w1.heap.size w1 w' ∧ w'.cell? ⟨b, 0, none⟩ = some (.int .i64 c)) w1.drew := ⟨below_drew _ _, C0⟩
    go_region_held3 (fun w' => Below w1.heap.size w1 w' ∧ w'.cell? ⟨b, 0, none⟩ = some (.int .i64 c))
      (first | (go_split_ands; refine ⟨?_, ?_⟩ <;> first | assumption | exact keep1 hbq (by assumption) | exact keep2 hbq (by assumption) | exact keep1 (al _ _) (by assumption) | exact keep2 (al _ _) (by assumption)) | go_keep)
      (first | (go_at_call 37; refine (key_b b c s m o k false d _ (HC1.out.step (by first | assumption | exact And.left (by assumption)))).mono ?_; rintro e w' ⟨rfl, hbq⟩) | (go_at_call 46; refine (tag_any c _ _ _ (HD.out _) (by simp) (by simp)).mono ?_; rintro e w' ⟨rfl, hbq⟩))
    have hS9 : Below w1.heap.size w1 w' := by first | assumption | exact And.left (by assumption)
    have HB9 := Lib.hid (HB.out.trans (hS9.mono HB.out.size))
    clear hS9
    go_wp2
    go_ret
    exact ⟨ret_int rfl, HB9.out⟩
  · go_enter Try.func38, Try.ntmps38
    go_wp2_with fail
    go_quiet (fail)
    go_wp2_with fail
    have HD := Lib.hid (show ∀ W : World, IntsAt (W.alloc (.cells #[.int .i64 mark, .int .i64 o, .int .i64 m, .int .i64 (pw o s)] 3)) (.slice (some ⟨W.heap.size, 0, none⟩) 4 4) [mark, o, m, pw o s] from fun W => ints_lit W [mark, o, m, pw o s] #[.int .i64 mark, .int .i64 o, .int .i64 m, .int .i64 (pw o s)] 3 rfl (by simp) 4 rfl _ rfl)
    have HB := Lib.hid (below_drewN' w.heap.size w nq)
    have hC : Cs (w.drewN nq) b (jc c s m o k true d) := HC.out.step (below_drewN' _ _ _)
    have C0 : (w.drewN nq).cell? ⟨b, 0, none⟩ = some (.int .i64 c) := c0
    generalize w.drewN nq = w1 at *
    have HC1 := Lib.hid hC
    clear hC HC
    have hS : (fun w' : World => Below w1.heap.size w1 w' ∧ w'.cell? ⟨b, 0, none⟩ = some (.int .i64 c)) w1.drew := ⟨below_drew _ _, C0⟩
    go_region_held3 (fun w' => Below w1.heap.size w1 w' ∧ w'.cell? ⟨b, 0, none⟩ = some (.int .i64 c))
      (first | (go_split_ands; refine ⟨?_, ?_⟩ <;> first | assumption | exact keep1 hbq (by assumption) | exact keep2 hbq (by assumption) | exact keep1 (al _ _) (by assumption) | exact keep2 (al _ _) (by assumption)) | go_keep)
      (first | (go_at_call 37; refine (key_b b c s m o k true d _ (HC1.out.step (by first | assumption | exact And.left (by assumption)))).mono ?_; rintro e w' ⟨rfl, hbq⟩) | (go_at_call 46; refine (tag_any c _ _ _ (HD.out _) (by simp) (by simp)).mono ?_; rintro e w' ⟨rfl, hbq⟩))
    have hS9 : Below w1.heap.size w1 w' := by first | assumption | exact And.left (by assumption)
    have HB9 := Lib.hid (HB.out.trans (hS9.mono HB.out.size))
    clear hS9
    go_wp2
    go_ret
    exact ⟨ret_int rfl, HB9.out⟩
end Go.Proofs.Ytoggmladiakblaa
