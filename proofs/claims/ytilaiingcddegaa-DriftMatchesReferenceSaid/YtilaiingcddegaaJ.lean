/- The walk of 'head'. -/
import Derived.Test.YtilaiingcddegaaI
namespace Go.Proofs.Ytilaiingcddegaa
open Go.RowKit

/-- Two cells of a block. -/
def TwoAt (w : World) (n : Nat) (x y : Int) : Prop := (w.cell? ⟨n, 0, none⟩ = some (.int .i64 x) ∧ w.cell? ⟨n, 1, none⟩ = some (.int .i64 y)) ∧ n < w.heap.size
theorem TwoAt.new (w : World) (n : Nat) (x y : Int) (t : TypeId) (hn : n = w.heap.size) : TwoAt (w.alloc (.cells #[.int .i64 x, .int .i64 y] t)) n x y := by
  subst hn
  refine ⟨⟨?_, ?_⟩, by simp⟩ <;> simp
theorem TwoAt.step {w w1 : World} {n : Nat} {x y : Int} (h : TwoAt w n x y) (hb : Below w.heap.size w w1) : TwoAt w1 n x y :=
  ⟨⟨keep1 hb h.1.1, keep1 hb h.1.2⟩, Nat.lt_of_lt_of_le h.2 hb.size⟩
theorem TwoAt.alloc {w : World} {n : Nat} {x y : Int} (h : TwoAt w n x y) (o : Obj) : TwoAt (w.alloc o) n x y := h.step (al w o)
theorem back_any (v : Value) (l : List Int) (w : World) (h : IntsAt w v l) : Calls Try.prog 19 #[v] w (BackPost (bkv l) w) := by
  cases hr : rdB l
  · have : bkv l = [] := by unfold bkv; rw [hr]; rfl
    rw [this]; exact back_no v l w h hr
  · have : bkv l = backL l := by unfold bkv; rw [hr]; rfl
    rw [this]; exact callsIn_wide.1 (back_in v l w h hr)
theorem cell_new' (w : World) (cs : Array Value) (t : TypeId) (n : Nat) (hn : n = w.heap.size) (j : Nat) : (w.alloc (.cells cs t)).cell? ⟨n, j, none⟩ = cs[j]? := by
  subst hn; simp
theorem ints_lit (W : World) (l : List Int) (cs : Array Value) (hc : cs.toList = l.map (.int .i64)) (hm : l.length ≤ 1000) (n : Nat) (hn : n = l.length) : IntsAt (W.alloc (.cells cs 3)) (.slice (some ⟨W.heap.size, 0, none⟩) n n) l := by
  subst hn
  refine ⟨_, _, rfl, by unfold maxLen; omega, fun _ => ⟨W.heap.size, 0, rfl, fun i x hi => ?_⟩⟩
  rw [cell_new' W cs 3 _ (by rfl), ← Array.getElem?_toList, hc, List.getElem?_map, Nat.zero_add]
  simp [hi]
theorem since_at (s d x y z : Int) (w : World) (h : sLo s d = x ∧ sHi s d = y ∧ sEr s d = z) : Calls Try.prog 10 #[.int .i64 s, .int .i64 d] w (SpanPost x y z w) := by
  have := since_any s d w; rwa [h.1, h.2.1, h.2.2] at this
theorem now_at (l h s d x y z : Int) (w : World) (hh : nLo l h s d = x ∧ nHi l h s d = y ∧ nEr l h s d = z) : Calls Try.prog 12 #[.agg #[.int .i64 l, .int .i64 h], .int .i64 s, .int .i64 d] w (SpanPost x y z w) := by
  have := now_any l h s d w; rwa [hh.1, hh.2.1, hh.2.2] at this
theorem meet_at (a b c d x y : Int) (z : Bool) (w : World) (h : mLo a b c d = x ∧ mHi a b c d = y ∧ mOk a b c d = z) : Calls Try.prog 14 #[.agg #[.int .i64 a, .int .i64 b], .agg #[.int .i64 c, .int .i64 d]] w (MeetPost x y z w) := by
  have := meet_any a b c d w; rwa [h.1, h.2.1, h.2.2] at this

set_option maxRecDepth 100000 in
set_option maxHeartbeats 8000000 in
theorem head_any (w : World) : Calls Try.prog 9 #[] w fun e w' => e = .returned (.bool true) ∧ Below w.heap.size w w' := by
  have HB0 := Lib.hid (Below.refl w.heap.size w)
  go_enter Try.func9, Try.ntmps9
  go_wp2_with fail
  refine (since_at 1000 0 1000 1000 0 _ (by decide +kernel)).mono ?_
  rintro e u1 ⟨rfl, b1⟩
  have HB1 := Lib.hid (keep2 b1 HB0.out)
  clear HB0 b1
  have KA_2 := Lib.hid (TwoAt.new u1 (u1.heap.size) (1000) (1000) 23 (by simp))
  have HB3 : Hid (Below w.heap.size w (u1.alloc (.cells #[.int .i64 1000, .int .i64 1000] 23))) := HB1.out.alloc HB1.out.size _
  clear HB1
  go_wp2_with fail
  refine (since_at 1000 100000 910 1111 0 _ (by decide +kernel)).mono ?_
  rintro e u2 ⟨rfl, b2⟩
  have KA_4 := Lib.hid (KA_2.out.step b2)
  clear KA_2
  have HB5 := Lib.hid (keep2 b2 HB3.out)
  clear HB3 b2
  have KA_6 := Lib.hid (KA_4.out.alloc (.cells #[.int .i64 910, .int .i64 1111] 23))
  clear KA_4
  have KB_7 := Lib.hid (TwoAt.new u2 (u2.heap.size) (910) (1111) 23 (by simp))
  have HB8 : Hid (Below w.heap.size w (u2.alloc (.cells #[.int .i64 910, .int .i64 1111] 23))) := HB5.out.alloc HB5.out.size _
  clear HB5
  go_wp2_with fail
  refine (now_at 50 60 1000 100000 960 1171 0 _ (by decide +kernel)).mono ?_
  rintro e u3 ⟨rfl, b3⟩
  have KA_9 := Lib.hid (KA_6.out.step b3)
  clear KA_6
  have KB_10 := Lib.hid (KB_7.out.step b3)
  clear KB_7
  have HB11 := Lib.hid (keep2 b3 HB8.out)
  clear HB8 b3
  have KA_12 := Lib.hid (KA_9.out.alloc (.cells #[.int .i64 960, .int .i64 1171] 23))
  clear KA_9
  have KB_13 := Lib.hid (KB_10.out.alloc (.cells #[.int .i64 960, .int .i64 1171] 23))
  clear KB_10
  have KC_14 := Lib.hid (TwoAt.new u3 (u3.heap.size) (960) (1171) 23 (by simp))
  have HB15 : Hid (Below w.heap.size w (u3.alloc (.cells #[.int .i64 960, .int .i64 1171] 23))) := HB11.out.alloc HB11.out.size _
  clear HB11
  go_wp2_with fail
  refine (since_at (-1) 0 0 0 1 _ (by decide +kernel)).mono ?_
  rintro e u4 ⟨rfl, b4⟩
  have KA_16 := Lib.hid (KA_12.out.step b4)
  clear KA_12
  have KB_17 := Lib.hid (KB_13.out.step b4)
  clear KB_13
  have KC_18 := Lib.hid (KC_14.out.step b4)
  clear KC_14
  have HB19 := Lib.hid (keep2 b4 HB15.out)
  clear HB15 b4
  have KA_20 := Lib.hid (KA_16.out.alloc (.cells #[.int .i64 0, .int .i64 0] 23))
  clear KA_16
  have KB_21 := Lib.hid (KB_17.out.alloc (.cells #[.int .i64 0, .int .i64 0] 23))
  clear KB_17
  have KC_22 := Lib.hid (KC_18.out.alloc (.cells #[.int .i64 0, .int .i64 0] 23))
  clear KC_18
  have HB23 : Hid (Below w.heap.size w (u4.alloc (.cells #[.int .i64 0, .int .i64 0] 23))) := HB19.out.alloc HB19.out.size _
  clear HB19
  go_wp2_with fail
  refine (now_at 0 2000000000 1 0 0 0 20 _ (by decide +kernel)).mono ?_
  rintro e u5 ⟨rfl, b5⟩
  have KA_24 := Lib.hid (KA_20.out.step b5)
  clear KA_20
  have KB_25 := Lib.hid (KB_21.out.step b5)
  clear KB_21
  have KC_26 := Lib.hid (KC_22.out.step b5)
  clear KC_22
  have HB27 := Lib.hid (keep2 b5 HB23.out)
  clear HB23 b5
  have KA_28 := Lib.hid (KA_24.out.alloc (.cells #[.int .i64 0, .int .i64 0] 23))
  clear KA_24
  have KB_29 := Lib.hid (KB_25.out.alloc (.cells #[.int .i64 0, .int .i64 0] 23))
  clear KB_25
  have KC_30 := Lib.hid (KC_26.out.alloc (.cells #[.int .i64 0, .int .i64 0] 23))
  clear KC_26
  have HB31 : Hid (Below w.heap.size w (u5.alloc (.cells #[.int .i64 0, .int .i64 0] 23))) := HB27.out.alloc HB27.out.size _
  clear HB27
  go_wp2_with fail
  refine (meet_at 1 5 5 9 5 5 true _ (by decide +kernel)).mono ?_
  rintro e u6 ⟨rfl, b6⟩
  have KA_32 := Lib.hid (KA_28.out.step b6)
  clear KA_28
  have KB_33 := Lib.hid (KB_29.out.step b6)
  clear KB_29
  have KC_34 := Lib.hid (KC_30.out.step b6)
  clear KC_30
  have HB35 := Lib.hid (keep2 b6 HB31.out)
  clear HB31 b6
  have KA_36 := Lib.hid (KA_32.out.alloc (.cells #[.int .i64 5, .int .i64 5] 23))
  clear KA_32
  have KB_37 := Lib.hid (KB_33.out.alloc (.cells #[.int .i64 5, .int .i64 5] 23))
  clear KB_33
  have KC_38 := Lib.hid (KC_34.out.alloc (.cells #[.int .i64 5, .int .i64 5] 23))
  clear KC_34
  have KD_39 := Lib.hid (TwoAt.new u6 (u6.heap.size) (5) (5) 23 (by simp))
  have HB40 : Hid (Below w.heap.size w (u6.alloc (.cells #[.int .i64 5, .int .i64 5] 23))) := HB35.out.alloc HB35.out.size _
  clear HB35
  go_wp2_with fail
  refine (meet_at 1 4 5 9 0 0 false _ (by decide +kernel)).mono ?_
  rintro e u7 ⟨rfl, b7⟩
  have KA_41 := Lib.hid (KA_36.out.step b7)
  clear KA_36
  have KB_42 := Lib.hid (KB_37.out.step b7)
  clear KB_37
  have KC_43 := Lib.hid (KC_38.out.step b7)
  clear KC_38
  have KD_44 := Lib.hid (KD_39.out.step b7)
  clear KD_39
  have HB45 := Lib.hid (keep2 b7 HB40.out)
  clear HB40 b7
  have KA_46 := Lib.hid (KA_41.out.alloc (.cells #[.int .i64 0, .int .i64 0] 23))
  clear KA_41
  have KB_47 := Lib.hid (KB_42.out.alloc (.cells #[.int .i64 0, .int .i64 0] 23))
  clear KB_42
  have KC_48 := Lib.hid (KC_43.out.alloc (.cells #[.int .i64 0, .int .i64 0] 23))
  clear KC_43
  have KD_49 := Lib.hid (KD_44.out.alloc (.cells #[.int .i64 0, .int .i64 0] 23))
  clear KD_44
  have HB50 : Hid (Below w.heap.size w (u7.alloc (.cells #[.int .i64 0, .int .i64 0] 23))) := HB45.out.alloc HB45.out.size _
  clear HB45
  obtain ⟨⟨xA, yA⟩, zA⟩ := KA_46.out
  obtain ⟨⟨xB, yB⟩, zB⟩ := KB_47.out
  obtain ⟨⟨xC, yC⟩, zC⟩ := KC_48.out
  obtain ⟨⟨xD, yD⟩, zD⟩ := KD_49.out
  go_wp2_with fail
  refine (before_any 1 5 6 9 _).mono ?_
  rintro e u8 ⟨rfl, b8⟩
  clear xA yA zA xB yB zB xC yC zC xD yD zD
  have KA_51 := Lib.hid (KA_46.out.step b8)
  clear KA_46
  have KB_52 := Lib.hid (KB_47.out.step b8)
  clear KB_47
  have KC_53 := Lib.hid (KC_48.out.step b8)
  clear KC_48
  have KD_54 := Lib.hid (KD_49.out.step b8)
  clear KD_49
  have HB55 := Lib.hid (keep2 b8 HB50.out)
  clear HB50 b8
  rw [show bF 1 5 6 9 = true from by decide +kernel]
  go_wp2_with fail
  have KA_56 := Lib.hid (KA_51.out.alloc (.cells #[.int .i64 10, .int .i64 20, .int .i64 5, .int .i64 8, .int .i64 30] 3))
  clear KA_51
  have KB_57 := Lib.hid (KB_52.out.alloc (.cells #[.int .i64 10, .int .i64 20, .int .i64 5, .int .i64 8, .int .i64 30] 3))
  clear KB_52
  have KC_58 := Lib.hid (KC_53.out.alloc (.cells #[.int .i64 10, .int .i64 20, .int .i64 5, .int .i64 8, .int .i64 30] 3))
  clear KC_53
  have KD_59 := Lib.hid (KD_54.out.alloc (.cells #[.int .i64 10, .int .i64 20, .int .i64 5, .int .i64 8, .int .i64 30] 3))
  clear KD_54
  have HB60 : Hid (Below w.heap.size w (u8.alloc (.cells #[.int .i64 10, .int .i64 20, .int .i64 5, .int .i64 8, .int .i64 30] 3))) := HB55.out.alloc HB55.out.size _
  clear HB55
  refine (back_any _ [10, 20, 5, 8, 30] _ (ints_lit _ [10, 20, 5, 8, 30] _ rfl (by decide) 5 rfl)).mono ?_
  rintro e u9 ⟨v, rfl, hv, b9⟩
  have KA_61 := Lib.hid (KA_56.out.step b9)
  clear KA_56
  have KB_62 := Lib.hid (KB_57.out.step b9)
  clear KB_57
  have KC_63 := Lib.hid (KC_58.out.step b9)
  clear KC_58
  have KD_64 := Lib.hid (KD_59.out.step b9)
  clear KD_59
  have HB65 := Lib.hid (keep2 b9 HB60.out)
  clear HB60 b9
  rw [show bkv [10, 20, 5, 8, 30] = [10, 20, 20, 23, 45] from by decide +kernel] at hv
  have HV := Lib.hid hv
  clear hv
  go_wp2_with fail
  have KA_66 := Lib.hid (KA_61.out.alloc (.cells #[.int .i64 10, .int .i64 20, .int .i64 20, .int .i64 23, .int .i64 45] 3))
  clear KA_61
  have KB_67 := Lib.hid (KB_62.out.alloc (.cells #[.int .i64 10, .int .i64 20, .int .i64 20, .int .i64 23, .int .i64 45] 3))
  clear KB_62
  have KC_68 := Lib.hid (KC_63.out.alloc (.cells #[.int .i64 10, .int .i64 20, .int .i64 20, .int .i64 23, .int .i64 45] 3))
  clear KC_63
  have KD_69 := Lib.hid (KD_64.out.alloc (.cells #[.int .i64 10, .int .i64 20, .int .i64 20, .int .i64 23, .int .i64 45] 3))
  clear KD_64
  have HB70 : Hid (Below w.heap.size w (u9.alloc (.cells #[.int .i64 10, .int .i64 20, .int .i64 20, .int .i64 23, .int .i64 45] 3))) := HB65.out.alloc HB65.out.size _
  clear HB65
  refine (ints_any _ _ [10, 20, 20, 23, 45] [10, 20, 20, 23, 45] _ (HV.out.step (al _ _)) (ints_lit _ [10, 20, 20, 23, 45] _ rfl (by decide) 5 rfl)).mono ?_
  rintro e u10 ⟨rfl, b10⟩
  have KA_71 := Lib.hid (KA_66.out.step b10)
  clear KA_66
  have KB_72 := Lib.hid (KB_67.out.step b10)
  clear KB_67
  have KC_73 := Lib.hid (KC_68.out.step b10)
  clear KC_68
  have KD_74 := Lib.hid (KD_69.out.step b10)
  clear KD_69
  have HB75 := Lib.hid (keep2 b10 HB70.out)
  clear HB70 b10
  rw [show eqI [10, 20, 20, 23, 45] [10, 20, 20, 23, 45] = true from by decide +kernel]
  go_wp2_with fail
  go_ret
  exact ⟨rfl, HB75.out⟩
end Go.Proofs.Ytilaiingcddegaa
