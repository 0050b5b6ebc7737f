/- Beliefs: the closures. -/
import Derived.Test.YtigpopemllamdaaAd
namespace Go.Proofs.Ytigpopemllamdaa
open Go.RowKit

/-- A settled value. -/
def stB (x : Od) : Bool := decide (x.c = -1)
set_option maxRecDepth 100000 in
set_option maxHeartbeats 8000000 in
theorem within_any (n lo hi : Int) (w : World) : Calls Try.prog 48 #[.int .i64 n, .int .i64 lo, .int .i64 hi] w fun e w' => e = .returned (.bool (inr n lo hi)) ∧ Below w.heap.size w w' := by
  unfold inr
  by_cases h1 : lo ≤ n
  · go_enter Try.func48, Try.ntmps48
    go_wp2
    go_ret
    exact ⟨by rw [decide_eq_true h1]; rfl, by first | exact Below.refl _ _ | exact below_drew _ _⟩
  · go_enter Try.func48, Try.ntmps48
    go_wp2
    go_ret
    exact ⟨by rw [decide_eq_false (show ¬ lo ≤ n by omega)]; rfl, by first | exact Below.refl _ _ | exact below_drew _ _⟩
set_option maxRecDepth 100000 in
set_option maxHeartbeats 8000000 in
theorem settled_any (x : Od) (w : World) : Calls Try.prog 60 #[.agg #[.int .i64 x.a, .int .i64 x.b, .int .i64 x.c, .int .i64 x.d]] w fun e w' => e = .returned (.bool (stB x)) ∧ Below w.heap.size w w' := by
  have HB := Lib.hid (al w (.cells #[.int .i64 x.a, .int .i64 x.b, .int .i64 x.c, .int .i64 x.d] 27))
  go_enter Try.func60, Try.ntmps60
  go_wp2
  go_ret
  exact ⟨by first | rfl | simp [stB], HB.out⟩
theorem settled_fits (w : World) : Fits 60 #[] stB w := fun x w1 _ => settled_any x w1
theorem eg60 : ∀ (args : Array Value) (w : World), (callFunc 60 args).run Try.prog w = .ok (.enter 60 args) w := fun _ _ => by kernel_rfl
set_option maxRecDepth 100000 in
set_option maxHeartbeats 8000000 in
theorem flying1_any (x : Od) (w : World) : Calls Try.prog 69 #[.agg #[.int .i64 x.a, .int .i64 x.b, .int .i64 x.c, .int .i64 x.d]] w fun e w' => e = .returned (.bool (!stB x)) ∧ Below w.heap.size w w' := by
  have HB := Lib.hid (al w (.cells #[.int .i64 x.a, .int .i64 x.b, .int .i64 x.c, .int .i64 x.d] 27))
  have HO := Lib.hid (Cs.new w w.heap.size #[.int .i64 x.a, .int .i64 x.b, .int .i64 x.c, .int .i64 x.d] 27 rfl)
  go_enter Try.func69, Try.ntmps69
  go_wp2_with fail
  refine (settled_any x _).mono ?_
  rintro e w2 ⟨rfl, b2⟩
  have HB2 := Lib.hid (keep2 b2 HB.out)
  clear b2
  go_wp2
  go_ret
  exact ⟨by first | rfl | simp, HB2.out⟩
theorem flying1_fits (w : World) : Fits 69 #[] (fun x => !stB x) w := fun x w1 _ => flying1_any x w1
theorem eg69 : ∀ (args : Array Value) (w : World), (callFunc 69 args).run Try.prog w = .ok (.enter 69 args) w := fun _ _ => by kernel_rfl
set_option maxRecDepth 100000 in
set_option maxHeartbeats 8000000 in
theorem confirm2_any (x : Od) (w : World) : Calls Try.prog 62 #[.agg #[.int .i64 x.a, .int .i64 x.b, .int .i64 x.c, .int .i64 x.d]] w fun e w' => e = .returned (.bool (!stB x)) ∧ Below w.heap.size w w' := by
  have HB := Lib.hid (al w (.cells #[.int .i64 x.a, .int .i64 x.b, .int .i64 x.c, .int .i64 x.d] 27))
  have HO := Lib.hid (Cs.new w w.heap.size #[.int .i64 x.a, .int .i64 x.b, .int .i64 x.c, .int .i64 x.d] 27 rfl)
  go_enter Try.func62, Try.ntmps62
  go_wp2_with fail
  refine (settled_any x _).mono ?_
  rintro e w2 ⟨rfl, b2⟩
  have HB2 := Lib.hid (keep2 b2 HB.out)
  clear b2
  go_wp2
  go_ret
  exact ⟨by first | rfl | simp, HB2.out⟩
theorem confirm2_fits (w : World) : Fits 62 #[] (fun x => !stB x) w := fun x w1 _ => confirm2_any x w1
theorem eg62 : ∀ (args : Array Value) (w : World), (callFunc 62 args).run Try.prog w = .ok (.enter 62 args) w := fun _ _ => by kernel_rfl
set_option maxRecDepth 100000 in
set_option maxHeartbeats 8000000 in
theorem send1_any (x : Od) (o : Od) (k : Nat) (w : World) (h : Cs w k #[.int .i64 o.a, .int .i64 o.b, .int .i64 o.c, .int .i64 o.d]) : Calls Try.prog 54 #[.agg #[.int .i64 x.a, .int .i64 x.b, .int .i64 x.c, .int .i64 x.d], .pointer (some ⟨k, 0, none⟩)] w fun e w' => e = .returned (.bool (decide (o.a ≤ x.a))) ∧ Below w.heap.size w w' := by
  have HB := Lib.hid (al w (.cells #[.int .i64 x.a, .int .i64 x.b, .int .i64 x.c, .int .i64 x.d] 27))
  have HC := Lib.hid (h.alloc (.cells #[.int .i64 x.a, .int .i64 x.b, .int .i64 x.c, .int .i64 x.d] 27))
  have c0 := HC.out.c 0 rfl
  have cz := HC.out.2.2
  clear h
  go_enter Try.func54, Try.ntmps54
  go_wp2
  go_ret
  exact ⟨by first | rfl | (simp; done) | (simp [decide_not]; done), by first | exact HB.out | exact HB2.out⟩
theorem send1_fits (o : Od) (k : Nat) (w : World) (h : Cs w k #[.int .i64 o.a, .int .i64 o.b, .int .i64 o.c, .int .i64 o.d]) : Fits 54 #[.pointer (some ⟨k, 0, none⟩)] (fun x => decide (o.a ≤ x.a)) w := fun x w1 hb => send1_any x o k w1 (h.step hb)
theorem eg54 : ∀ (args : Array Value) (w : World), (callFunc 54 args).run Try.prog w = .ok (.enter 54 args) w := fun _ _ => by kernel_rfl
set_option maxRecDepth 100000 in
set_option maxHeartbeats 8000000 in
theorem send2_any (x : Od) (o : Od) (k : Nat) (w : World) (h : Cs w k #[.int .i64 o.a, .int .i64 o.b, .int .i64 o.c, .int .i64 o.d]) : Calls Try.prog 55 #[.agg #[.int .i64 x.a, .int .i64 x.b, .int .i64 x.c, .int .i64 x.d], .pointer (some ⟨k, 0, none⟩)] w fun e w' => e = .returned (.bool (decide (o.b < x.b))) ∧ Below w.heap.size w w' := by
  have HB := Lib.hid (al w (.cells #[.int .i64 x.a, .int .i64 x.b, .int .i64 x.c, .int .i64 x.d] 27))
  have HC := Lib.hid (h.alloc (.cells #[.int .i64 x.a, .int .i64 x.b, .int .i64 x.c, .int .i64 x.d] 27))
  have c0 := HC.out.c 0 rfl
  have c1 := HC.out.c 1 rfl
  have cz := HC.out.2.2
  clear h
  go_enter Try.func55, Try.ntmps55
  go_wp2
  go_ret
  exact ⟨by first | rfl | (simp; done) | (simp [decide_not]; done), by first | exact HB.out | exact HB2.out⟩
theorem send2_fits (o : Od) (k : Nat) (w : World) (h : Cs w k #[.int .i64 o.a, .int .i64 o.b, .int .i64 o.c, .int .i64 o.d]) : Fits 55 #[.pointer (some ⟨k, 0, none⟩)] (fun x => decide (o.b < x.b)) w := fun x w1 hb => send2_any x o k w1 (h.step hb)
theorem eg55 : ∀ (args : Array Value) (w : World), (callFunc 55 args).run Try.prog w = .ok (.enter 55 args) w := fun _ _ => by kernel_rfl
set_option maxRecDepth 100000 in
set_option maxHeartbeats 8000000 in
theorem report1_any (x : Od) (t : Int) (k : Nat) (w : World) (h : Cs w k #[.int .i64 t]) : Calls Try.prog 65 #[.agg #[.int .i64 x.a, .int .i64 x.b, .int .i64 x.c, .int .i64 x.d], .pointer (some ⟨k, 0, none⟩)] w fun e w' => e = .returned (.bool (decide (t < x.a))) ∧ Below w.heap.size w w' := by
  have HB := Lib.hid (al w (.cells #[.int .i64 x.a, .int .i64 x.b, .int .i64 x.c, .int .i64 x.d] 27))
  have HC := Lib.hid (h.alloc (.cells #[.int .i64 x.a, .int .i64 x.b, .int .i64 x.c, .int .i64 x.d] 27))
  have c0 := HC.out.c 0 rfl
  have cz := HC.out.2.2
  clear h
  go_enter Try.func65, Try.ntmps65
  go_wp2
  go_ret
  exact ⟨by first | rfl | (simp; done) | (simp [decide_not]; done), by first | exact HB.out | exact HB2.out⟩
theorem report1_fits (t : Int) (k : Nat) (w : World) (h : Cs w k #[.int .i64 t]) : Fits 65 #[.pointer (some ⟨k, 0, none⟩)] (fun x => decide (t < x.a)) w := fun x w1 hb => report1_any x t k w1 (h.step hb)
theorem eg65 : ∀ (args : Array Value) (w : World), (callFunc 65 args).run Try.prog w = .ok (.enter 65 args) w := fun _ _ => by kernel_rfl
set_option maxRecDepth 100000 in
set_option maxHeartbeats 8000000 in
theorem confirm1_any (x : Od) (t : Int) (k : Nat) (w : World) (h : Cs w k #[.int .i64 t]) : Calls Try.prog 59 #[.agg #[.int .i64 x.a, .int .i64 x.b, .int .i64 x.c, .int .i64 x.d], .pointer (some ⟨k, 0, none⟩)] w fun e w' => e = .returned (.bool (!stB x && decide (x.a = t))) ∧ Below w.heap.size w w' := by
  have HB := Lib.hid (al w (.cells #[.int .i64 x.a, .int .i64 x.b, .int .i64 x.c, .int .i64 x.d] 27))
  have HC := Lib.hid (h.alloc (.cells #[.int .i64 x.a, .int .i64 x.b, .int .i64 x.c, .int .i64 x.d] 27))
  have HO := Lib.hid (Cs.new w w.heap.size #[.int .i64 x.a, .int .i64 x.b, .int .i64 x.c, .int .i64 x.d] 27 rfl)
  clear h
  cases hs : stB x
  all_goals go_enter Try.func59, Try.ntmps59
  all_goals go_wp2_with fail
  all_goals refine (settled_any x _).mono ?_
  all_goals rintro e w2 ⟨rfl, b2⟩
  all_goals rw [hs]
  all_goals have HB2 := Lib.hid (keep2 b2 HB.out)
  all_goals have c0 := (HC.out.step b2).c 0 rfl
  all_goals have cz := (HC.out.step b2).2.2
  all_goals have o0 := (HO.out.step b2).c 0 rfl
  all_goals have oz := (HO.out.step b2).2.2
  all_goals clear b2
  all_goals go_wp2
  all_goals go_ret
  all_goals exact ⟨by first | rfl | (simp; done), HB2.out⟩
theorem confirm1_fits (t : Int) (k : Nat) (w : World) (h : Cs w k #[.int .i64 t]) : Fits 59 #[.pointer (some ⟨k, 0, none⟩)] (fun x => !stB x && decide (x.a = t)) w := fun x w1 hb => confirm1_any x t k w1 (h.step hb)
theorem eg59 : ∀ (args : Array Value) (w : World), (callFunc 59 args).run Try.prog w = .ok (.enter 59 args) w := fun _ _ => by kernel_rfl
set_option maxRecDepth 100000 in
set_option maxHeartbeats 8000000 in
theorem confirm3_any (x o : Od) (k : Nat) (hq : -1000 ≤ o.a ∧ o.a ≤ 1000000000) (w : World) (h : Cs w k #[.int .i64 o.a, .int .i64 o.b, .int .i64 o.c, .int .i64 o.d]) : Calls Try.prog 64 #[.agg #[.int .i64 x.a, .int .i64 x.b, .int .i64 x.c, .int .i64 x.d], .pointer (some ⟨k, 0, none⟩)] w fun e w' => e = .returned (.bool (decide (o.a - 16 < x.a) && decide (o.b ≤ x.b))) ∧ Below w.heap.size w w' := by
  have HB := Lib.hid (al w (.cells #[.int .i64 x.a, .int .i64 x.b, .int .i64 x.c, .int .i64 x.d] 27))
  have HC := Lib.hid (h.alloc (.cells #[.int .i64 x.a, .int .i64 x.b, .int .i64 x.c, .int .i64 x.d] 27))
  have c0 := HC.out.c 0 rfl
  have c1 := HC.out.c 1 rfl
  have cz := HC.out.2.2
  clear h
  obtain ⟨h1, h2⟩ := hq
  have hw : wrap64 (o.a - 16) = o.a - 16 := IntWalk.wrap64_in _ (by omega)
  by_cases hd : o.a - 16 < x.a
  · have he := decide_eq_true hd
    go_enter Try.func64, Try.ntmps64
    go_wp2
    go_ret
    exact ⟨by first | rfl | (simp [hd]; done), HB.out⟩
  · have he := decide_eq_false hd
    go_enter Try.func64, Try.ntmps64
    go_wp2
    go_ret
    exact ⟨by first | rfl | (rw [he]; rfl), HB.out⟩
theorem confirm3_fits (o : Od) (k : Nat) (hq : -1000 ≤ o.a ∧ o.a ≤ 1000000000) (w : World) (h : Cs w k #[.int .i64 o.a, .int .i64 o.b, .int .i64 o.c, .int .i64 o.d]) : Fits 64 #[.pointer (some ⟨k, 0, none⟩)] (fun x => decide (o.a - 16 < x.a) && decide (o.b ≤ x.b)) w := fun x w1 hb => confirm3_any x o k hq w1 (h.step hb)
theorem eg64 : ∀ (args : Array Value) (w : World), (callFunc 64 args).run Try.prog w = .ok (.enter 64 args) w := fun _ _ => by kernel_rfl
end Go.Proofs.Ytigpopemllamdaa
