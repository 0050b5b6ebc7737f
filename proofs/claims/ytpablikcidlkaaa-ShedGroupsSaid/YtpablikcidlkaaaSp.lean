/- Shedding: the head of every law. -/
import Derived.Test.YtpablikcidlkaaaSo
namespace Go.Proofs.Ytpablikcidlkaaa
open Go.RowKit

theorem lit4 (W : World) (a b c d : Bool) : BosAt (W.alloc (.cells #[.bool a, .bool b, .bool c, .bool d] 4)) (.slice (some ⟨W.heap.size, 0, none⟩) 4 4) [a, b, c, d] := bos_box (BoxN.new W (bArr [a, b, c, d]) 4 rfl) rfl (by omega)
theorem keep_e (v : Value) (l : List (Int × Int)) (x : Int) (w : World) (h : ConsAt w v l) (ok : Bool) (r : List Bool) (hok : (acB l && wiB x 1000000000) = ok) (hr : cond ok (kpL l fun _ => x) [] = r) :
    Calls Try.prog 11 #[v, .int .i64 x] w fun e w' => ∃ u, e = .returned (.tuple #[u, .int .i64 (cond ok 0 1)]) ∧ BosAt w' u r ∧ Below w.heap.size w w' := by
  subst hr hok
  exact keep_q v l x w h
theorem step_e (v vb : Value) (l : List (Int × Int)) (bf : List Bool) (x m : Int) (w : World) (h : ConsAt w v l) (hb : BosAt w vb bf) (ok : Bool) (r : List Bool) (hok : stB l bf x m = ok) (hr : cond ok (kpL l (lim2 bf x m)) [] = r) :
    Calls Try.prog 13 #[v, vb, .int .i64 x, .int .i64 m] w fun e w' => ∃ u, e = .returned (.tuple #[u, .int .i64 (cond ok 0 1)]) ∧ BosAt w' u r ∧ Below w.heap.size w w' := by
  subst hr hok
  exact step_q v vb l bf x m w h hb
theorem same_e (va vb : Value) (a b : List Bool) (w : World) (ha : BosAt w va a) (hb : BosAt w vb b) (t : Bool) (h : decide (a = b) = t) : Calls Try.prog 15 #[va, vb] w fun e w' => e = .returned (.bool t) ∧ Below w.heap.size w w' := by
  subst h; exact same_any va vb a b w ha hb
set_option maxRecDepth 100000 in
set_option maxHeartbeats 8000000 in
theorem head_any (w : World) : Calls Try.prog 10 #[] w fun e w' => e = .returned (.bool true) ∧ Below w.heap.size w w' := by
  go_enter Try.func10, Try.ntmps10
  go_wp2_with fail
  refine (example_any _).mono ?_
  rintro e w1 ⟨vL, rfl, hL, b⟩
  have HL := Lib.hid hL
  have HB := Lib.hid b
  clear hL b
  go_wp2_with fail
  refine (keep_e vL exL 100 _ HL.out true [false, true, true, true] (by decide +kernel) (by decide +kernel)).mono ?_
  rintro e w2 ⟨u2, rfl, r, b⟩
  replace HL := Lib.hid (HL.out.step b)
  replace HB := Lib.hid (keep2 b HB.out)
  have Ru2 := Lib.hid r
  clear r b
  go_wp2_with fail
  refine (keep_e vL exL 60 _ HL.out true [false, true, false, true] (by decide +kernel) (by decide +kernel)).mono ?_
  rintro e w3 ⟨u4, rfl, r, b⟩
  replace HL := Lib.hid (HL.out.step b)
  replace Ru2 := Lib.hid (Ru2.out.step b)
  replace HB := Lib.hid (keep2 b HB.out)
  have Ru4 := Lib.hid r
  clear r b
  go_wp2_with fail
  refine (step_e vL _ exL [false, true, true, true] 120 0 _ (HL.out.step (al _ _)) (lit4 _ _ _ _ _) true [true, true, true, false] (by decide +kernel) (by decide +kernel)).mono ?_
  rintro e w4 ⟨u6, rfl, r, b⟩
  replace HL := Lib.hid (HL.out.step (keep2 b (al _ _)))
  replace Ru2 := Lib.hid (Ru2.out.step (keep2 b (al _ _)))
  replace Ru4 := Lib.hid (Ru4.out.step (keep2 b (al _ _)))
  replace HB := Lib.hid (keep2 (keep2 b (al _ _)) HB.out)
  have Ru6 := Lib.hid r
  clear r b
  go_wp2_with fail
  refine (step_e vL _ exL [false, true, true, true] 120 10 _ (HL.out.step (al _ _)) (lit4 _ _ _ _ _) true [false, true, true, true] (by decide +kernel) (by decide +kernel)).mono ?_
  rintro e w5 ⟨u8, rfl, r, b⟩
  replace HL := Lib.hid (HL.out.step (keep2 b (al _ _)))
  replace Ru2 := Lib.hid (Ru2.out.step (keep2 b (al _ _)))
  replace Ru4 := Lib.hid (Ru4.out.step (keep2 b (al _ _)))
  replace Ru6 := Lib.hid (Ru6.out.step (keep2 b (al _ _)))
  replace HB := Lib.hid (keep2 (keep2 b (al _ _)) HB.out)
  have Ru8 := Lib.hid r
  clear r b
  go_wp2_with fail
  refine (keep_e vL exL (-1) _ HL.out false [] (by decide +kernel) (by decide +kernel)).mono ?_
  rintro e w6 ⟨u10, rfl, r, b⟩
  replace HL := Lib.hid (HL.out.step b)
  replace Ru2 := Lib.hid (Ru2.out.step b)
  replace Ru4 := Lib.hid (Ru4.out.step b)
  replace Ru6 := Lib.hid (Ru6.out.step b)
  replace Ru8 := Lib.hid (Ru8.out.step b)
  replace HB := Lib.hid (keep2 b HB.out)
  have Ru10 := Lib.hid r
  clear r b
  go_wp2_with fail
  refine (step_e vL _ exL [] 5 5 _ HL.out (bos_nil _) false [] (by decide +kernel) (by decide +kernel)).mono ?_
  rintro e w7 ⟨u12, rfl, r, b⟩
  replace HL := Lib.hid (HL.out.step b)
  replace Ru2 := Lib.hid (Ru2.out.step b)
  replace Ru4 := Lib.hid (Ru4.out.step b)
  replace Ru6 := Lib.hid (Ru6.out.step b)
  replace Ru8 := Lib.hid (Ru8.out.step b)
  replace Ru10 := Lib.hid (Ru10.out.step b)
  replace HB := Lib.hid (keep2 b HB.out)
  have Ru12 := Lib.hid r
  clear r b
  go_wp2_with fail
  refine (same_e u2 _ _ _ _ (Ru2.out.step (al _ _)) (lit4 _ _ _ _ _) true (by decide)).mono ?_
  rintro e w8 ⟨rfl, b⟩
  replace HL := Lib.hid (HL.out.step (keep2 b (al _ _)))
  replace Ru2 := Lib.hid (Ru2.out.step (keep2 b (al _ _)))
  replace Ru4 := Lib.hid (Ru4.out.step (keep2 b (al _ _)))
  replace Ru6 := Lib.hid (Ru6.out.step (keep2 b (al _ _)))
  replace Ru8 := Lib.hid (Ru8.out.step (keep2 b (al _ _)))
  replace Ru10 := Lib.hid (Ru10.out.step (keep2 b (al _ _)))
  replace Ru12 := Lib.hid (Ru12.out.step (keep2 b (al _ _)))
  replace HB := Lib.hid (keep2 (keep2 b (al _ _)) HB.out)
  clear b
  go_wp2_with fail
  refine (same_e u4 _ _ _ _ (Ru4.out.step (al _ _)) (lit4 _ _ _ _ _) true (by decide)).mono ?_
  rintro e w9 ⟨rfl, b⟩
  replace HL := Lib.hid (HL.out.step (keep2 b (al _ _)))
  replace Ru2 := Lib.hid (Ru2.out.step (keep2 b (al _ _)))
  replace Ru4 := Lib.hid (Ru4.out.step (keep2 b (al _ _)))
  replace Ru6 := Lib.hid (Ru6.out.step (keep2 b (al _ _)))
  replace Ru8 := Lib.hid (Ru8.out.step (keep2 b (al _ _)))
  replace Ru10 := Lib.hid (Ru10.out.step (keep2 b (al _ _)))
  replace Ru12 := Lib.hid (Ru12.out.step (keep2 b (al _ _)))
  replace HB := Lib.hid (keep2 (keep2 b (al _ _)) HB.out)
  clear b
  go_wp2_with fail
  refine (same_e u6 _ _ _ _ (Ru6.out.step (al _ _)) (lit4 _ _ _ _ _) true (by decide)).mono ?_
  rintro e w10 ⟨rfl, b⟩
  replace HL := Lib.hid (HL.out.step (keep2 b (al _ _)))
  replace Ru2 := Lib.hid (Ru2.out.step (keep2 b (al _ _)))
  replace Ru4 := Lib.hid (Ru4.out.step (keep2 b (al _ _)))
  replace Ru6 := Lib.hid (Ru6.out.step (keep2 b (al _ _)))
  replace Ru8 := Lib.hid (Ru8.out.step (keep2 b (al _ _)))
  replace Ru10 := Lib.hid (Ru10.out.step (keep2 b (al _ _)))
  replace Ru12 := Lib.hid (Ru12.out.step (keep2 b (al _ _)))
  replace HB := Lib.hid (keep2 (keep2 b (al _ _)) HB.out)
  clear b
  go_wp2_with fail
  refine (same_e u8 _ _ _ _ (Ru8.out.step (al _ _)) (lit4 _ _ _ _ _) true (by decide)).mono ?_
  rintro e w11 ⟨rfl, b⟩
  replace HL := Lib.hid (HL.out.step (keep2 b (al _ _)))
  replace Ru2 := Lib.hid (Ru2.out.step (keep2 b (al _ _)))
  replace Ru4 := Lib.hid (Ru4.out.step (keep2 b (al _ _)))
  replace Ru6 := Lib.hid (Ru6.out.step (keep2 b (al _ _)))
  replace Ru8 := Lib.hid (Ru8.out.step (keep2 b (al _ _)))
  replace Ru10 := Lib.hid (Ru10.out.step (keep2 b (al _ _)))
  replace Ru12 := Lib.hid (Ru12.out.step (keep2 b (al _ _)))
  replace HB := Lib.hid (keep2 (keep2 b (al _ _)) HB.out)
  clear b
  go_wp2
  go_ret
  exact ⟨by simp, HB.out⟩
end Go.Proofs.Ytpablikcidlkaaa
