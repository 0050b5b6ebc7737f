/- Clocks: law TopClocks, the walk. -/
import Derived.Test.YtifnhfpdcbpjlaaVl
namespace Go.Proofs.Ytifnhfpdcbpjlaa
open Go.RowKit

theorem less_of {c n d t H : Int} (hn : 0 ≤ n) (hc : 0 ≤ c) (hd : 0 ≤ d) (h1 : lo c d ≤ t) (h2 : t ≤ H) (h3 : H < lo n d) : c < n := by
  have a := (lo_le hc hd (lo c d)).1 (by omega)
  by_cases h : c < n
  · exact h
  · have b := (lo_le hn hd (lo c d)).2 (by generalize (1000000 + d) * lo c d = z at *; omega)
    omega
theorem since_ok {s d x y : Int} (w : World) (h1 : 0 ≤ s) (h2 : s ≤ 1000000000) (h3 : 0 ≤ d) (h4 : d ≤ 100000) (h : lo s d = x ∧ hi s d = y) : Calls Try.prog 5 #[.int .i64 s, .int .i64 d] w fun e w' => e = .returned (.tuple #[.agg #[.int .i64 x, .int .i64 y], .int .i64 0]) ∧ Below w.heap.size w w' := by
  have g := since_any s d w
  have k : sOk s d = true := by unfold sOk inB; simp; omega
  unfold sLo sHi sEr at g
  rw [if_pos k, if_pos k, if_pos k, h.1, h.2] at g
  exact g
theorem vote_first (at_ n : Int) (w : World) (h1 : 0 ≤ at_) (h2 : at_ ≤ 1000000) (h3 : 1 ≤ n) (h4 : n ≤ 1000000) : Calls Try.prog 6 #[.agg #[.int .i64 0, .int .i64 0, .int .i64 0], .agg #[.int .i64 0, .int .i64 1, .int .i64 (at_ + n)], .int .i64 at_] w fun e w' => e = .returned (.tuple #[.agg #[.int .i64 1, .int .i64 0, .int .i64 (at_ + n)], .bool true]) ∧ Below w.heap.size w w' := by
  have g := vote_any 0 0 0 0 1 (at_ + n) at_ w
  have k : voB 0 0 0 0 1 (at_ + n) at_ = true := by unfold voB tmB agB lsB inr; simp; omega
  unfold votedV at g
  rw [if_pos k, k, show grU 0 0 0 (at_ + n) = at_ + n by unfold grU mxi; simp; omega] at g
  exact g
theorem vote_then (at_ n c h f u : Int) (w : World) (h1 : 0 ≤ at_) (h2 : c < n) (h3 : h ≠ 0) : Calls Try.prog 6 #[.agg #[.int .i64 1, .int .i64 0, .int .i64 (at_ + n)], .agg #[.int .i64 h, .int .i64 f, .int .i64 u], .int .i64 (at_ + c)] w fun e w' => e = .returned (.tuple #[.agg #[.int .i64 1, .int .i64 0, .int .i64 (at_ + n)], .bool false]) ∧ Below w.heap.size w w' := by
  have g := vote_any 1 0 (at_ + n) h f u (at_ + c) w
  have k : voB 1 0 (at_ + n) h f u (at_ + c) = false := by
    unfold voB agB
    have a : decide (at_ + n ≤ at_ + c) = false := by simp; omega
    have b : ((0 : Int) == h) = false := by simp; omega
    rw [a, b]; simp
  unfold votedV at g
  rw [if_neg (by rw [k]; decide), k] at g
  exact g

set_option maxRecDepth 100000 in
set_option maxHeartbeats 32000000 in
theorem clocks_any (d p m o l st h f u : Int) (w : World) (d0 : 0 ≤ d) (d9 : d ≤ 4294967295) (p0 : 0 ≤ p) (p9 : p ≤ 4294967295) (m0 : 0 ≤ m) (m9 : m ≤ 4294967295) (o0 : 0 ≤ o) (o9 : o ≤ 4294967295) (l0 : 0 ≤ l) (l9 : l ≤ 4294967295) (s0 : 0 ≤ st) (s9 : st ≤ 4294967295) :
    Calls Try.prog 3 #[.int .u32 d, .int .u32 p, .int .u32 m, .int .u32 o, .int .u32 l, .int .u32 st, .agg #[.int .i64 h, .int .i64 f, .int .i64 u]] w fun e w' => e = .returned (.bool true) ∧ Below w.heap.size w w' := by
  have da : 0 ≤ d % 100001 := Int.emod_nonneg _ (by omega)
  have db : d % 100001 ≤ 100000 := by omega
  have pa : 0 ≤ p % 1000001 := Int.emod_nonneg _ (by omega)
  have pb : p % 1000001 ≤ 1000000 := by omega
  have ma : 0 ≤ m % 1200001 := Int.emod_nonneg _ (by omega)
  have mb : m % 1200001 ≤ 1200000 := by omega
  have oa : 0 ≤ o % 1200001 := Int.emod_nonneg _ (by omega)
  have ob : o % 1200001 ≤ 1200000 := by omega
  have la : 0 ≤ l % 1000000 := Int.emod_nonneg _ (by omega)
  have lb : l % 1000000 ≤ 999999 := by omega
  have sta : 0 ≤ st % 1000001 := Int.emod_nonneg _ (by omega)
  have stb : st % 1000001 ≤ 1000000 := by omega
  have HB0 := Lib.hid (Below.refl w.heap.size w)
  go_enter Try.func3, Try.ntmps3
  have FX_1 := Lib.hid (Cs.new w (w.heap.size) #[.int .i64 h, .int .i64 f, .int .i64 u] 24 (by simp))
  have HB2 : Hid (Below w.heap.size w (w.alloc (.cells #[.int .i64 h, .int .i64 f, .int .i64 u] 24))) := HB0.out.alloc HB0.out.size _
  clear HB0
  go_wp2_with fail
  refine (leased_any _).mono ?_
  rintro e u1 ⟨rfl, b1⟩
  have FX_3 := Lib.hid (FX_1.out.step b1)
  clear FX_1
  have HB4 := Lib.hid (keep2 b1 HB2.out)
  clear HB2 b1
  have hwn : wrap64 (1 + l % 1000000) = 1 + l % 1000000 := IntWalk.wrap64_in _ (by omega)
  go_wp2_with fail
  obtain ⟨n, hn⟩ : ∃ n, 1 + l % 1000000 = n := ⟨_, rfl⟩
  have na : 1 ≤ n := by omega
  have nb : n ≤ 1000000 := by omega
  rw [hn] at hwn
  try rw [hn]
  clear d9 p9 m9 o9 l9 s9 d0 p0 m0 o0 l0 s0
  generalize d % 100001 = d at *
  generalize p % 1000001 = p at *
  generalize m % 1200001 = m at *
  generalize o % 1200001 = o at *
  generalize st % 1000001 = st at *
  clear hn la lb hwn
  obtain ⟨ax, ay, ha⟩ : ∃ x y, lo m d = x ∧ hi m d = y := ⟨_, _, rfl, rfl⟩
  obtain ⟨bx, by_, hb⟩ : ∃ x y, lo o d = x ∧ hi o d = y := ⟨_, _, rfl, rfl⟩
  obtain ⟨cx, cy, hc⟩ : ∃ x y, lo n d = x ∧ hi n d = y := ⟨_, _, rfl, rfl⟩
  have HA := Lib.hid ha
  have HB := Lib.hid hb
  have HC := Lib.hid hc
  clear ha hb hc
  refine (since_ok _ ma (by omega) da db HA.out).mono ?_
  rintro e u2 ⟨rfl, b2⟩
  have FX_5 := Lib.hid (FX_3.out.step b2)
  clear FX_3
  have HB6 := Lib.hid (keep2 b2 HB4.out)
  clear HB4 b2
  have FX_7 := Lib.hid (FX_5.out.step (al u2 (.cells #[.int .i64 ax, .int .i64 ay] 27)))
  clear FX_5
  have FA_8 := Lib.hid (Cs.new u2 (u2.heap.size) #[.int .i64 ax, .int .i64 ay] 27 (by simp))
  have HB9 : Hid (Below w.heap.size w (u2.alloc (.cells #[.int .i64 ax, .int .i64 ay] 27))) := HB6.out.alloc HB6.out.size _
  clear HB6
  go_wp2_with fail
  refine (since_ok _ oa (by omega) da db HB.out).mono ?_
  rintro e u3 ⟨rfl, b3⟩
  have FX_10 := Lib.hid (FX_7.out.step b3)
  clear FX_7
  have FA_11 := Lib.hid (FA_8.out.step b3)
  clear FA_8
  have HB12 := Lib.hid (keep2 b3 HB9.out)
  clear HB9 b3
  have FX_13 := Lib.hid (FX_10.out.step (al u3 (.cells #[.int .i64 bx, .int .i64 by_] 27)))
  clear FX_10
  have FA_14 := Lib.hid (FA_11.out.step (al u3 (.cells #[.int .i64 bx, .int .i64 by_] 27)))
  clear FA_11
  have FB_15 := Lib.hid (Cs.new u3 (u3.heap.size) #[.int .i64 bx, .int .i64 by_] 27 (by simp))
  have HB16 : Hid (Below w.heap.size w (u3.alloc (.cells #[.int .i64 bx, .int .i64 by_] 27))) := HB12.out.alloc HB12.out.size _
  clear HB12
  go_wp2_with fail
  refine (since_ok _ (by omega) (by omega) da db HC.out).mono ?_
  rintro e u4 ⟨rfl, b4⟩
  have FX_17 := Lib.hid (FX_13.out.step b4)
  clear FX_13
  have FA_18 := Lib.hid (FA_14.out.step b4)
  clear FA_14
  have FB_19 := Lib.hid (FB_15.out.step b4)
  clear FB_15
  have HB20 := Lib.hid (keep2 b4 HB16.out)
  clear HB16 b4
  have FX_21 := Lib.hid (FX_17.out.step (al u4 (.cells #[.int .i64 cx, .int .i64 cy] 27)))
  clear FX_17
  have FA_22 := Lib.hid (FA_18.out.step (al u4 (.cells #[.int .i64 cx, .int .i64 cy] 27)))
  clear FA_18
  have FB_23 := Lib.hid (FB_19.out.step (al u4 (.cells #[.int .i64 cx, .int .i64 cy] 27)))
  clear FB_19
  have FC_24 := Lib.hid (Cs.new u4 (u4.heap.size) #[.int .i64 cx, .int .i64 cy] 27 (by simp))
  have HB25 : Hid (Below w.heap.size w (u4.alloc (.cells #[.int .i64 cx, .int .i64 cy] 27))) := HB20.out.alloc HB20.out.size _
  clear HB20
  have xA0 := FA_22.out.c 0 rfl
  have xA1 := FA_22.out.c 1 rfl
  have xzA := FA_22.out.2.2
  have xB0 := FB_23.out.c 0 rfl
  have xB1 := FB_23.out.c 1 rfl
  have xzB := FB_23.out.2.2
  have xC0 := FC_24.out.c 0 rfl
  have xC1 := FC_24.out.c 1 rfl
  have xzC := FC_24.out.2.2
  have xX0 := FX_21.out.c 0 rfl
  have xX1 := FX_21.out.c 1 rfl
  have xX2 := FX_21.out.c 2 rfl
  have xzX := FX_21.out.2.2
  by_cases f0 : p < ax
  · go_wp2
    go_ret
    exact ⟨rfl, HB25.out⟩
  have n0 : ax ≤ p := by omega
  clear f0
  by_cases f1 : ay < p
  · go_wp2
    go_ret
    exact ⟨rfl, HB25.out⟩
  have n1 : p ≤ ay := by omega
  clear f1
  by_cases f2 : p < bx
  · go_wp2
    go_ret
    exact ⟨rfl, HB25.out⟩
  have n2 : bx ≤ p := by omega
  clear f2
  by_cases f3 : by_ < p
  · go_wp2
    go_ret
    exact ⟨rfl, HB25.out⟩
  have n3 : p ≤ by_ := by omega
  clear f3
  by_cases f4 : cx ≤ ay
  · go_wp2
    go_ret
    exact ⟨rfl, HB25.out⟩
  have n4 : ay < cx := by omega
  clear f4
  have LS := Lib.hid (less_of (t := p) (H := ay) (d := d) (n := n) (c := o) (by omega) oa da (by rw [HB.out.1]; exact n2) n1 (by rw [HC.out.1]; exact n4))
  have hw1 : wrap64 (st + n) = st + n := IntWalk.wrap64_in _ (by omega)
  have hw2 : wrap64 (st + o) = st + o := IntWalk.wrap64_in _ (by omega)
  go_wp2_with fail
  refine (vote_first st n _ sta stb na nb).mono ?_
  rintro e u5 ⟨rfl, b5⟩
  clear xA0 xA1 xzA xB0 xB1 xzB xC0 xC1 xzC xX0 xX1 xX2 xzX
  have FX_26 := Lib.hid (FX_21.out.step b5)
  clear FX_21
  have FA_27 := Lib.hid (FA_22.out.step b5)
  clear FA_22
  have FB_28 := Lib.hid (FB_23.out.step b5)
  clear FB_23
  have FC_29 := Lib.hid (FC_24.out.step b5)
  clear FC_24
  have HB30 := Lib.hid (keep2 b5 HB25.out)
  clear HB25 b5
  clear FA_27
  clear FB_28
  clear FC_29
  have FX_31 := Lib.hid (FX_26.out.step (al u5 (.cells #[.int .i64 1, .int .i64 0, .int .i64 (st + n)] 32)))
  clear FX_26
  have FV_32 := Lib.hid (Cs.new u5 (u5.heap.size) #[.int .i64 1, .int .i64 0, .int .i64 (st + n)] 32 (by simp))
  have HB33 : Hid (Below w.heap.size w (u5.alloc (.cells #[.int .i64 1, .int .i64 0, .int .i64 (st + n)] 32))) := HB30.out.alloc HB30.out.size _
  clear HB30
  have xX0 := FX_31.out.c 0 rfl
  have xX1 := FX_31.out.c 1 rfl
  have xX2 := FX_31.out.c 2 rfl
  have xzX := FX_31.out.2.2
  have xV0 := FV_32.out.c 0 rfl
  have xV1 := FV_32.out.c 1 rfl
  have xV2 := FV_32.out.c 2 rfl
  have xzV := FV_32.out.2.2
  by_cases hz : h = 0
  · subst hz
    go_wp2
    go_ret
    exact ⟨rfl, HB33.out⟩
  go_wp2_with fail
  refine (vote_then st n o h f u _ sta LS.out hz).mono ?_
  rintro e u6 ⟨rfl, b6⟩
  clear xX0 xX1 xX2 xzX xV0 xV1 xV2 xzV
  have FX_34 := Lib.hid (FX_31.out.step b6)
  clear FX_31
  have FV_35 := Lib.hid (FV_32.out.step b6)
  clear FV_32
  have HB36 := Lib.hid (keep2 b6 HB33.out)
  clear HB33 b6
  have FX_37 := Lib.hid (FX_34.out.step (al u6 (.cells #[.int .i64 1, .int .i64 0, .int .i64 (st + n)] 32)))
  clear FX_34
  have FV_38 := Lib.hid (FV_35.out.step (al u6 (.cells #[.int .i64 1, .int .i64 0, .int .i64 (st + n)] 32)))
  clear FV_35
  have FZ_39 := Lib.hid (Cs.new u6 (u6.heap.size) #[.int .i64 1, .int .i64 0, .int .i64 (st + n)] 32 (by simp))
  have HB40 : Hid (Below w.heap.size w (u6.alloc (.cells #[.int .i64 1, .int .i64 0, .int .i64 (st + n)] 32))) := HB36.out.alloc HB36.out.size _
  clear HB36
  have xV0 := FV_38.out.c 0 rfl
  have xV1 := FV_38.out.c 1 rfl
  have xV2 := FV_38.out.c 2 rfl
  have xzV := FV_38.out.2.2
  have xZ0 := FZ_39.out.c 0 rfl
  have xZ1 := FZ_39.out.c 1 rfl
  have xZ2 := FZ_39.out.c 2 rfl
  have xzZ := FZ_39.out.2.2
  go_wp2
  go_ret
  exact ⟨rfl, HB40.out⟩
end Go.Proofs.Ytifnhfpdcbpjlaa
