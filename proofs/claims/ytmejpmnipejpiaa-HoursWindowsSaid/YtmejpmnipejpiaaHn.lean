/- Quiet hours: the examples. -/
import Derived.Test.YtmejpmnipejpiaaHm
namespace Go.Proofs.Ytmejpmnipejpiaa
open Go.RowKit

def wcs (l : List (Int × Int)) : List Value := l.flatMap fun x => [.int .i64 x.1, .int .i64 x.2]
theorem wcs_get (l : List (Int × Int)) : ∀ (i : Nat) (x : Int × Int), l[i]? = some x → ∀ j, j < 2 → (wcs l)[i * 2 + j]? = [Value.int .i64 x.1, .int .i64 x.2][j]? := by
  induction l with
  | nil => intro i x h; simp at h
  | cons y l ih =>
    intro i x h j hj
    have hs : wcs (y :: l) = [.int .i64 y.1, .int .i64 y.2] ++ wcs l := by simp [wcs]
    rw [hs]
    cases i with
    | zero =>
      simp at h; subst h
      rw [List.getElem?_append_left (by simp; omega)]
      simp
    | succ i =>
      rw [List.getElem?_append_right (by simp; omega)]
      have := ih i x (by simpa using h) j hj
      rw [← this]
      congr 1
      simp; omega
theorem wins_lit (W : World) (l : List (Int × Int)) (cs : Array Value) (t : TypeId) (hc : cs = (wcs l).toArray) (n b : Nat) (hn : n = l.length) (hm : n ≤ 1000) (hb : b = W.heap.size) : WinsAt (W.alloc (.cells cs t)) (.slice (some ⟨b, 0, none⟩) n n) l := by
  subst hn hb hc
  refine ⟨_, _, rfl, Nat.le_refl _, by unfold maxLen; omega, fun _ => ⟨W.heap.size, 0, rfl, fun i x hi => ?_⟩⟩
  have h0 := wcs_get l i x hi 0 (by omega)
  have h1 := wcs_get l i x hi 1 (by omega)
  rw [Nat.zero_add, cell_new' W _ _ _ rfl, cell_new' W _ _ _ rfl]
  exact ⟨by simpa using h0, by simpa using h1⟩
theorem changes_lit (W : World) (l : List (Int × Bool)) (cs : Array Value) (t : TypeId) (hc : cs = (ccs l).toArray) (n b : Nat) (hn : n = l.length) (hm : n ≤ 1000) (hb : b = W.heap.size) : ChsAt (W.alloc (.cells cs t)) (.slice (some ⟨b, 0, none⟩) n n) l := by
  subst hn hb hc
  refine ⟨_, _, rfl, Nat.le_refl _, by unfold maxLen; omega, fun _ => ⟨W.heap.size, 0, rfl, fun i x hi => ?_⟩⟩
  have h0 := ccs_get l i x hi 0 (by omega)
  have h1 := ccs_get l i x hi 1 (by omega)
  rw [Nat.zero_add, cell_new' W _ _ _ rfl, cell_new' W _ _ _ rfl]
  exact ⟨by simpa using h0, by simpa using h1⟩
def exl : List (Int × Int) := [(1320, 360), (780, 840)]
def exc : List (Int × Bool) := [(360, false), (780, true), (840, false), (1320, true)]
def exa : List (Int × Int) := [(0, 720), (720, 0)]
theorem n_0 : nxV exl 0 = (360, true) := by decide +kernel
theorem n_359 : nxV exl 359 = (1, true) := by decide +kernel
theorem n_360 : nxV exl 360 = (420, true) := by decide +kernel
theorem n_5 : nxV exa 5 = (0, false) := by decide +kernel
theorem q_0 : qui exl 0 = true := by decide +kernel
theorem q_359 : qui exl 359 = true := by decide +kernel
theorem q_360 : qui exl 360 = false := by decide +kernel
theorem q_1319 : qui exl 1319 = false := by decide +kernel
theorem q_1320 : qui exl 1320 = true := by decide +kernel
theorem q_800 : qui exl 800 = true := by decide +kernel
theorem q_m1 : qui exl (-1) = true := by decide +kernel
theorem v_exl : okL exl = true := by decide +kernel
theorem v_zero : okL [(0, 0)] = false := by decide +kernel
theorem c_exl : cgV exl 0 1440 = exc := by decide +kernel
theorem next_q (v : Value) (l : List (Int × Int)) (m x : Int) (b : Bool) (hx : nxV l m = (x, b)) (w : World) (h : WinsAt w v l) : Calls Try.prog 10 #[v, .int .i64 m] w fun e w' => e = .returned (.tuple #[.int .i64 x, .bool b]) ∧ Below w.heap.size w w' :=
  (next_any v l m w h).mono fun e w' hq => by unfold NxP at hq; rw [hx] at hq; exact hq
theorem quiet_q (v : Value) (l : List (Int × Int)) (m : Int) (b : Bool) (hb : qui l m = b) (w : World) (h : WinsAt w v l) : Calls Try.prog 14 #[v, .int .i64 m] w fun e w' => e = .returned (.bool b) ∧ Below w.heap.size w w' := by
  rw [← hb]; exact quiet_any v l m w h
theorem cg_q (v : Value) (l : List (Int × Int)) (f t : Int) (c : List (Int × Bool)) (hc : cgV l f t = c) (w : World) (h : WinsAt w v l) : Calls Try.prog 17 #[v, .int .i64 f, .int .i64 t] w fun e w' => ∃ a k, e = .returned (.slice a c.length k) ∧ ChsAt w' (.slice a c.length k) c ∧ Below w.heap.size w w' := by
  refine (cg_any v l f t w h).mono fun e w' ⟨u, he, hu, hb⟩ => ?_
  rw [hc] at hu
  have hu2 := hu
  obtain ⟨a, k, rfl, -⟩ := hu
  exact ⟨a, k, he, hu2, hb⟩
theorem same_q (v u : Value) (a b : List (Int × Bool)) (x : Bool) (hx : eqC a b = x) (w : World) (h : ChsAt w v a) (h' : ChsAt w u b) : Calls Try.prog 16 #[v, u] w fun e w' => e = .returned (.bool x) ∧ Below w.heap.size w w' := by
  rw [← hx]; exact same_any v u a b w h h'
theorem example_any (w : World) : Calls Try.prog 20 #[] w fun e w' => (∃ a c, e = .returned (.slice a 2 c) ∧ WinsAt w' (.slice a 2 c) exl) ∧ Below w.heap.size w w' := by
  have H := Lib.hid (wins_lit w exl #[.int .i64 1320, .int .i64 360, .int .i64 780, .int .i64 840] 40 rfl 2 _ rfl (by decide) rfl)
  have HB := Lib.hid (al w (.cells #[.int .i64 1320, .int .i64 360, .int .i64 780, .int .i64 840] 40))
  go_enter Try.func20, Try.ntmps20
  go_wp2
  go_ret
  exact ⟨⟨_, _, rfl, H.out⟩, HB.out⟩
set_option maxRecDepth 100000 in
set_option maxHeartbeats 8000000 in
theorem head_any (w : World) : Calls Try.prog 9 #[] w fun e w' => e = .returned (.bool true) ∧ Below w.heap.size w w' := by
  have HB0 := Lib.hid (Below.refl w.heap.size w)
  go_enter Try.func9, Try.ntmps9
  go_wp2_with fail
  refine (example_any _).mono ?_
  rintro e u1 ⟨⟨ea, ec, rfl, hu⟩, b1⟩
  have HB1 := Lib.hid (keep2 b1 HB0.out)
  clear HB0 b1
  have FL_2 := Lib.hid (hu)
  clear hu
  go_wp2_with fail
  refine (next_q _ exl 0 _ _ n_0 _ FL_2.out).mono ?_
  rintro e u2 ⟨rfl, b2⟩
  have FL_3 := Lib.hid (FL_2.out.step b2)
  clear FL_2
  have HB4 := Lib.hid (keep2 b2 HB1.out)
  clear HB1 b2
  go_wp2_with fail
  refine (next_q _ exl 359 _ _ n_359 _ FL_3.out).mono ?_
  rintro e u3 ⟨rfl, b3⟩
  have FL_5 := Lib.hid (FL_3.out.step b3)
  clear FL_3
  have HB6 := Lib.hid (keep2 b3 HB4.out)
  clear HB4 b3
  go_wp2_with fail
  refine (next_q _ exl 360 _ _ n_360 _ FL_5.out).mono ?_
  rintro e u4 ⟨rfl, b4⟩
  have FL_7 := Lib.hid (FL_5.out.step b4)
  clear FL_5
  have HB8 := Lib.hid (keep2 b4 HB6.out)
  clear HB6 b4
  go_wp2_with fail
  have FL_9 := Lib.hid (FL_7.out.step (al u4 (.cells #[.int .i64 0, .int .i64 720, .int .i64 720, .int .i64 0] 40)))
  clear FL_7
  have FA_10 := Lib.hid (wins_lit u4 exa #[.int .i64 0, .int .i64 720, .int .i64 720, .int .i64 0] 40 rfl 2 _ rfl (by decide) rfl)
  have HB11 : Hid (Below w.heap.size w (u4.alloc (.cells #[.int .i64 0, .int .i64 720, .int .i64 720, .int .i64 0] 40))) := HB8.out.alloc HB8.out.size _
  clear HB8
  refine (next_q _ exa 5 _ _ n_5 _ FA_10.out).mono ?_
  rintro e u5 ⟨rfl, b5⟩
  have FL_12 := Lib.hid (FL_9.out.step b5)
  clear FL_9
  have FA_13 := Lib.hid (FA_10.out.step b5)
  clear FA_10
  have HB14 := Lib.hid (keep2 b5 HB11.out)
  clear HB11 b5
  clear FA_13
  go_wp2_with fail
  refine (quiet_q _ exl 0 _ q_0 _ FL_12.out).mono ?_
  rintro e u6 ⟨rfl, b6⟩
  have FL_15 := Lib.hid (FL_12.out.step b6)
  clear FL_12
  have HB16 := Lib.hid (keep2 b6 HB14.out)
  clear HB14 b6
  go_wp2_with fail
  refine (quiet_q _ exl 359 _ q_359 _ FL_15.out).mono ?_
  rintro e u7 ⟨rfl, b7⟩
  have FL_17 := Lib.hid (FL_15.out.step b7)
  clear FL_15
  have HB18 := Lib.hid (keep2 b7 HB16.out)
  clear HB16 b7
  go_wp2_with fail
  refine (quiet_q _ exl 360 _ q_360 _ FL_17.out).mono ?_
  rintro e u8 ⟨rfl, b8⟩
  have FL_19 := Lib.hid (FL_17.out.step b8)
  clear FL_17
  have HB20 := Lib.hid (keep2 b8 HB18.out)
  clear HB18 b8
  go_wp2_with fail
  refine (quiet_q _ exl 1319 _ q_1319 _ FL_19.out).mono ?_
  rintro e u9 ⟨rfl, b9⟩
  have FL_21 := Lib.hid (FL_19.out.step b9)
  clear FL_19
  have HB22 := Lib.hid (keep2 b9 HB20.out)
  clear HB20 b9
  go_wp2_with fail
  refine (quiet_q _ exl 1320 _ q_1320 _ FL_21.out).mono ?_
  rintro e u10 ⟨rfl, b10⟩
  have FL_23 := Lib.hid (FL_21.out.step b10)
  clear FL_21
  have HB24 := Lib.hid (keep2 b10 HB22.out)
  clear HB22 b10
  go_wp2_with fail
  refine (quiet_q _ exl 800 _ q_800 _ FL_23.out).mono ?_
  rintro e u11 ⟨rfl, b11⟩
  have FL_25 := Lib.hid (FL_23.out.step b11)
  clear FL_23
  have HB26 := Lib.hid (keep2 b11 HB24.out)
  clear HB24 b11
  go_wp2_with fail
  refine (quiet_q _ exl (-1) _ q_m1 _ FL_25.out).mono ?_
  rintro e u12 ⟨rfl, b12⟩
  have FL_27 := Lib.hid (FL_25.out.step b12)
  clear FL_25
  have HB28 := Lib.hid (keep2 b12 HB26.out)
  clear HB26 b12
  go_wp2_with fail
  refine (valid_q _ exl _ FL_27.out _ v_exl).mono ?_
  rintro e u13 ⟨rfl, b13⟩
  have FL_29 := Lib.hid (FL_27.out.step b13)
  clear FL_27
  have HB30 := Lib.hid (keep2 b13 HB28.out)
  clear HB28 b13
  go_wp2_with fail
  have FL_31 := Lib.hid (FL_29.out.step (al u13 (.cells #[.int .i64 0, .int .i64 0] 40)))
  clear FL_29
  have FA_32 := Lib.hid (wins_lit u13 [(0, 0)] #[.int .i64 0, .int .i64 0] 40 rfl 1 _ rfl (by decide) rfl)
  have HB33 : Hid (Below w.heap.size w (u13.alloc (.cells #[.int .i64 0, .int .i64 0] 40))) := HB30.out.alloc HB30.out.size _
  clear HB30
  refine (valid_q _ [(0, 0)] _ FA_32.out _ v_zero).mono ?_
  rintro e u14 ⟨rfl, b14⟩
  have FL_34 := Lib.hid (FL_31.out.step b14)
  clear FL_31
  have FA_35 := Lib.hid (FA_32.out.step b14)
  clear FA_32
  have HB36 := Lib.hid (keep2 b14 HB33.out)
  clear HB33 b14
  clear FA_35
  go_wp2_with fail
  refine (cg_q _ exl 0 1440 exc c_exl _ FL_34.out).mono ?_
  rintro e u15 ⟨ca, ck, rfl, hc, b15⟩
  have FL_37 := Lib.hid (FL_34.out.step b15)
  clear FL_34
  have HB38 := Lib.hid (keep2 b15 HB36.out)
  clear HB36 b15
  have FC_39 := Lib.hid (hc)
  clear hc
  rw [show exc.length = 4 from rfl]
  go_wp2_with fail
  have FL_40 := Lib.hid (FL_37.out.step (al u15 (.cells #[.int .i64 360, .bool false, .int .i64 780, .bool true, .int .i64 840, .bool false, .int .i64 1320, .bool true] 37)))
  clear FL_37
  have FC_41 := Lib.hid (FC_39.out.step (al u15 (.cells #[.int .i64 360, .bool false, .int .i64 780, .bool true, .int .i64 840, .bool false, .int .i64 1320, .bool true] 37)))
  clear FC_39
  have FD_42 := Lib.hid (changes_lit u15 exc #[.int .i64 360, .bool false, .int .i64 780, .bool true, .int .i64 840, .bool false, .int .i64 1320, .bool true] 37 rfl 4 _ rfl (by decide) rfl)
  have HB43 : Hid (Below w.heap.size w (u15.alloc (.cells #[.int .i64 360, .bool false, .int .i64 780, .bool true, .int .i64 840, .bool false, .int .i64 1320, .bool true] 37))) := HB38.out.alloc HB38.out.size _
  clear HB38
  refine (same_q _ _ exc exc _ (eqC_self _) _ FC_41.out FD_42.out).mono ?_
  rintro e u16 ⟨rfl, b16⟩
  have FL_44 := Lib.hid (FL_40.out.step b16)
  clear FL_40
  have FC_45 := Lib.hid (FC_41.out.step b16)
  clear FC_41
  have FD_46 := Lib.hid (FD_42.out.step b16)
  clear FD_42
  have HB47 := Lib.hid (keep2 b16 HB43.out)
  clear HB43 b16
  go_wp2
  go_ret
  exact ⟨rfl, HB47.out⟩
end Go.Proofs.Ytmejpmnipejpiaa
