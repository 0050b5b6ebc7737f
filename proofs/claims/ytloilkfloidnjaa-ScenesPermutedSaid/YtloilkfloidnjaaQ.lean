/- The walk of 'head'. -/
import Derived.Test.YtloilkfloidnjaaP
namespace Go.Proofs.Ytloilkfloidnjaa
open Go.RowKit Go.WideMaps

theorem ov_yes {v vn : Value} {L : List Scn} {N : List ByteArray} {w : World} (h : ScnsAt w v L) (hn : NamesAt w vn N) (F : Fit L N) (hkn : kn L N = true) :
    Calls Try.prog 13 #[v, vn] w fun e w' => ∃ u, e = .returned (.tuple #[u, .int .i64 0]) ∧ SettsAt w' u (ovl L N) ∧ Below w.heap.size w w' := (overlay_any v vn L N w h hn F).mono fun e w' h => by
  obtain ⟨⟨h, _⟩ | ⟨_, u, he, hs⟩, hb⟩ := h
  · rw [hkn] at h; cases h
  · exact ⟨u, he, hs, hb⟩
theorem ov_no {v vn : Value} {L : List Scn} {N : List ByteArray} {w : World} (h : ScnsAt w v L) (hn : NamesAt w vn N) (F : Fit L N) (hkn : kn L N = false) :
    Calls Try.prog 13 #[v, vn] w fun e w' => e = .returned (.tuple #[.slice none 0 0, .int .i64 8]) ∧ Below w.heap.size w w' := (overlay_any v vn L N w h hn F).mono fun e w' h => by
  obtain ⟨⟨_, he⟩ | ⟨h, _⟩, hb⟩ := h
  · exact ⟨he, hb⟩
  · rw [hkn] at h; cases h
theorem ex_fit (N : List ByteArray) (h : ∀ x ∈ N, x.size ≤ 100) (hl : N.length ≤ 20) : Fit exL N := by
  refine ⟨?_, ?_, by decide, fun x hx => Nat.le_trans (h x hx) (by decide), Nat.le_trans hl (by decide)⟩
  · intro x hx
    simp only [exL, List.mem_cons, List.not_mem_nil, or_false] at hx
    rcases hx with rfl | rfl | rfl <;> refine ⟨by decide, fun y hy => ?_⟩ <;> simp only [List.mem_cons, List.not_mem_nil, or_false] at hy
    · rcases hy with rfl | rfl <;> exact ⟨by decide, by decide⟩
    · subst hy; exact ⟨by decide, by decide⟩
    · subst hy; exact ⟨by decide, by decide⟩
  · intro x hx
    simp only [exL, List.mem_cons, List.not_mem_nil, or_false] at hx
    rcases hx with rfl | rfl | rfl <;> decide
theorem two_fit (a b : ByteArray) (ha : a.size ≤ 100) (hb : b.size ≤ 100) : Fit exL [a, b] := ex_fit _ (by intro x hx; simp at hx; rcases hx with rfl | rfl <;> assumption) (by simp)
theorem one_fit (a : ByteArray) (ha : a.size ≤ 100) : Fit exL [a] := ex_fit _ (by intro x hx; simp at hx; subst hx; assumption) (by simp)
theorem no_fit : Fit exL [] := ex_fit _ (by simp) (by simp)
theorem al (W : World) (o : Obj) : Below W.heap.size W (W.alloc o) := (Below.refl _ _).alloc (Nat.le_refl _) o
theorem k1 : kn exL [bEvening, bFilm] = true := by kernel_rfl
theorem k2 : kn exL [bFilm, bEvening] = true := by kernel_rfl
theorem k3 : kn exL [bAway, bEvening] = true := by kernel_rfl
theorem k4 : kn exL [bEvening, bNight] = false := by kernel_rfl
theorem o1 : ovl exL [bEvening, bFilm] = [mkS bLamp bDim, mkS bHeater bOn] := by kernel_rfl
theorem o2 : ovl exL [bFilm, bEvening] = [mkS bLamp bOn, mkS bHeater bOn] := by kernel_rfl
theorem o3 : ovl exL [bAway, bEvening] = [mkS bLamp bOff, mkS bHeater bOn] := by kernel_rfl
theorem o5 : ovl exL [] = [] := by kernel_rfl
theorem q1 : wI exL [bAway, bEvening] bLamp pw = 1 := by kernel_rfl
theorem q2 : wI exL [bEvening, bFilm] bLamp pw = 2 := by kernel_rfl
theorem q3 : wI exL [bNight] bLamp pw = -1 := by kernel_rfl
theorem r1 : eqL [mkS bLamp bDim, mkS bHeater bOn] [mkS bLamp bDim, mkS bHeater bOn] = true := by kernel_rfl
theorem r2 : eqL [mkS bLamp bOn, mkS bHeater bOn] [mkS bLamp bOn, mkS bHeater bOn] = true := by kernel_rfl
theorem r3 : eqL [mkS bLamp bOff, mkS bHeater bOn] [mkS bLamp bOff, mkS bHeater bOn] = true := by kernel_rfl
theorem nil_names (w : World) : NamesAt w (.slice none 0 0) [] := ⟨none, 0, rfl, by simp, fun h => absurd rfl h⟩
set_option maxRecDepth 100000 in
set_option maxHeartbeats 8000000 in
theorem head_any (w : World) : Calls Try.prog 11 #[] w fun e w' => e = .returned (.bool true) ∧ Below w.heap.size w w' := by
  go_enter Try.func11, Try.ntmps11
  go_wp2_with fail
  refine (example_any _).mono ?_
  rintro e w1 ⟨a, rfl, hs, b1⟩
  have HS1 := Lib.hid hs
  go_wp2_with fail
  refine (ov_yes (HS1.out.step (al w1 _)) (names_lit w1 [bEvening, bFilm] _ rfl (by decide) 2 rfl) (two_fit _ _ (by decide) (by decide)) k1).mono ?_
  rintro e w2 ⟨v1, rfl, hv1, b2⟩
  have B2 := keep2 b2 (al w1 _)
  have HS2 := Lib.hid (HS1.out.step B2)
  go_wp2_with fail
  refine (ov_yes (HS2.out.step (al w2 _)) (names_lit w2 [bFilm, bEvening] _ rfl (by decide) 2 rfl) (two_fit _ _ (by decide) (by decide)) k2).mono ?_
  rintro e w3 ⟨v2, rfl, hv2, b3⟩
  have B3 := keep2 b3 (al w2 _)
  have HS3 := Lib.hid (HS2.out.step B3)
  go_wp2_with fail
  refine (ov_yes (HS3.out.step (al w3 _)) (names_lit w3 [bAway, bEvening] _ rfl (by decide) 2 rfl) (two_fit _ _ (by decide) (by decide)) k3).mono ?_
  rintro e w4 ⟨v3, rfl, hv3, b4⟩
  have B4 := keep2 b4 (al w3 _)
  have HS4 := Lib.hid (HS3.out.step B4)
  go_wp2_with fail
  refine (ov_no (HS4.out.step (al w4 _)) (names_lit w4 [bEvening, bNight] _ rfl (by decide) 2 rfl) (two_fit _ _ (by decide) (by decide)) k4).mono ?_
  rintro e w5 ⟨rfl, b5⟩
  have B5 := keep2 b5 (al w4 _)
  have HS5 := Lib.hid (HS4.out.step B5)
  go_wp2_with fail
  refine (ov_yes HS5.out (nil_names _) no_fit rfl).mono ?_
  rintro e w6 ⟨v5, rfl, hv5, b6⟩
  have HS6 := Lib.hid (HS5.out.step b6)
  rw [o5] at hv5
  obtain ⟨a5, c5, rfl, -⟩ := hv5
  have C6 := al w6 (.cells #[.string ⟨#[108, 97, 109, 112]⟩, .string ⟨#[112, 111, 119, 101, 114]⟩] 25)
  have HS7 := Lib.hid (HS6.out.step C6)
  have V1 := Lib.hid ((((((hv1.step B3).step B4).step B5).step b6).step C6))
  have V2 := Lib.hid (((((hv2.step B4).step B5).step b6).step C6))
  have V3 := Lib.hid ((((hv3.step B5).step b6).step C6))
  have BA := Lib.hid (keep2 C6 (keep2 b6 (keep2 B5 (keep2 B4 (keep2 B3 (keep2 B2 b1))))))
  rw [o1] at V1
  rw [o2] at V2
  rw [o3] at V3
  have HZ0 := Lib.hid (cell_new' w6 #[.string ⟨#[108, 97, 109, 112]⟩, .string ⟨#[112, 111, 119, 101, 114]⟩] 25 _ rfl 0)
  have HZ1 := Lib.hid (cell_new' w6 #[.string ⟨#[108, 97, 109, 112]⟩, .string ⟨#[112, 111, 119, 101, 114]⟩] 25 _ rfl 1)
  clear hs b1 hv1 b2 B2 hv2 b3 B3 hv3 b4 B4 b5 B5 b6 C6 HS1 HS2 HS3 HS4 HS5 HS6
  generalize hW7 : w6.alloc (.cells #[.string ⟨#[108, 97, 109, 112]⟩, .string ⟨#[112, 111, 119, 101, 114]⟩] 25) = w7 at *
  have z0 : w7.cell? ⟨w6.heap.size, 0, none⟩ = some (.string ⟨#[108, 97, 109, 112]⟩) := HZ0.out
  have z1 : w7.cell? ⟨w6.heap.size, 1, none⟩ = some (.string ⟨#[112, 111, 119, 101, 114]⟩) := HZ1.out
  have Z0 := Lib.hid z0
  have Z1 := Lib.hid z1
  clear HZ0 HZ1 z0 z1
  have T7 := Lib.hid (Below.refl w7.heap.size w7)
  go_wp2_with fail
  refine (setting_any _ _ _).mono ?_
  rintro e w8 ⟨rfl, b8⟩
  have T8 := Lib.hid (T7.out.trans (b8.mono T7.out.size))
  clear b8
  go_wp2_with fail
  refine (setting_any _ _ _).mono ?_
  rintro e w9 ⟨rfl, b9⟩
  have T9 := Lib.hid (T8.out.trans (b9.mono T8.out.size))
  clear b9
  go_wp2_with fail
  refine (same_any _ _ _ _ _ (V1.out.step (T9.out.trans ((al w9 _).mono T9.out.size))) (setts_lit w9 [mkS bLamp bDim, mkS bHeater bOn] #[.string ⟨#[108, 97, 109, 112]⟩, .string ⟨#[112, 111, 119, 101, 114]⟩, .string ⟨#[100, 105, 109]⟩, .int .i64 0, .string ⟨#[]⟩, .string ⟨#[104, 101, 97, 116, 101, 114]⟩, .string ⟨#[112, 111, 119, 101, 114]⟩, .string ⟨#[111, 110]⟩, .int .i64 0, .string ⟨#[]⟩] rfl (by decide) 2 rfl)).mono ?_
  rintro e w10 ⟨rfl, b10⟩
  rw [r1]
  have T10 := Lib.hid ((T9.out.trans ((al w9 _).mono T9.out.size)).trans (b10.mono (Nat.le_trans T9.out.size (by simp))))
  clear b10
  go_wp2_with fail
  refine (setting_any _ _ _).mono ?_
  rintro e w11 ⟨rfl, b11⟩
  have T11 := Lib.hid (T10.out.trans (b11.mono T10.out.size))
  clear b11
  go_wp2_with fail
  refine (setting_any _ _ _).mono ?_
  rintro e w12 ⟨rfl, b12⟩
  have T12 := Lib.hid (T11.out.trans (b12.mono T11.out.size))
  clear b12
  go_wp2_with fail
  refine (same_any _ _ _ _ _ (V2.out.step (T12.out.trans ((al w12 _).mono T12.out.size))) (setts_lit w12 [mkS bLamp bOn, mkS bHeater bOn] #[.string ⟨#[108, 97, 109, 112]⟩, .string ⟨#[112, 111, 119, 101, 114]⟩, .string ⟨#[111, 110]⟩, .int .i64 0, .string ⟨#[]⟩, .string ⟨#[104, 101, 97, 116, 101, 114]⟩, .string ⟨#[112, 111, 119, 101, 114]⟩, .string ⟨#[111, 110]⟩, .int .i64 0, .string ⟨#[]⟩] rfl (by decide) 2 rfl)).mono ?_
  rintro e w13 ⟨rfl, b13⟩
  rw [r2]
  have T13 := Lib.hid ((T12.out.trans ((al w12 _).mono T12.out.size)).trans (b13.mono (Nat.le_trans T12.out.size (by simp))))
  clear b13
  go_wp2_with fail
  refine (setting_any _ _ _).mono ?_
  rintro e w14 ⟨rfl, b14⟩
  have T14 := Lib.hid (T13.out.trans (b14.mono T13.out.size))
  clear b14
  go_wp2_with fail
  refine (setting_any _ _ _).mono ?_
  rintro e w15 ⟨rfl, b15⟩
  have T15 := Lib.hid (T14.out.trans (b15.mono T14.out.size))
  clear b15
  go_wp2_with fail
  refine (same_any _ _ _ _ _ (V3.out.step (T15.out.trans ((al w15 _).mono T15.out.size))) (setts_lit w15 [mkS bLamp bOff, mkS bHeater bOn] #[.string ⟨#[108, 97, 109, 112]⟩, .string ⟨#[112, 111, 119, 101, 114]⟩, .string ⟨#[111, 102, 102]⟩, .int .i64 0, .string ⟨#[]⟩, .string ⟨#[104, 101, 97, 116, 101, 114]⟩, .string ⟨#[112, 111, 119, 101, 114]⟩, .string ⟨#[111, 110]⟩, .int .i64 0, .string ⟨#[]⟩] rfl (by decide) 2 rfl)).mono ?_
  rintro e w16 ⟨rfl, b16⟩
  rw [r3]
  have T16 := Lib.hid ((T15.out.trans ((al w15 _).mono T15.out.size)).trans (b16.mono (Nat.le_trans T15.out.size (by simp))))
  clear b16
  have X16 : Below w7.heap.size w7 (w16.alloc (.cells #[.string ⟨#[97, 119, 97, 121]⟩, .string ⟨#[101, 118, 101, 110, 105, 110, 103]⟩] 9)) := T16.out.trans ((al w16 _).mono T16.out.size)
  have z0 := keep1 X16 Z0.out
  have z1 := keep1 X16 Z1.out
  go_wp2_with fail
  refine (wins_any (.slice a exL.length 3) _ exL [bAway, bEvening] bLamp pw _ (HS7.out.step X16) (names_lit w16 [bAway, bEvening] #[.string ⟨#[97, 119, 97, 121]⟩, .string ⟨#[101, 118, 101, 110, 105, 110, 103]⟩] rfl (by decide) 2 rfl) (two_fit _ _ (by decide) (by decide)) (by decide) (by decide)).mono ?_
  rintro e w17 ⟨rfl, b17⟩
  rw [q1]
  have T17 := Lib.hid (X16.trans (b17.mono X16.size))
  clear b17 z0 z1 X16
  have X17 : Below w7.heap.size w7 (w17.alloc (.cells #[.string ⟨#[101, 118, 101, 110, 105, 110, 103]⟩, .string ⟨#[102, 105, 108, 109]⟩] 9)) := T17.out.trans ((al w17 _).mono T17.out.size)
  have z0 := keep1 X17 Z0.out
  have z1 := keep1 X17 Z1.out
  go_wp2_with fail
  refine (wins_any (.slice a exL.length 3) _ exL [bEvening, bFilm] bLamp pw _ (HS7.out.step X17) (names_lit w17 [bEvening, bFilm] #[.string ⟨#[101, 118, 101, 110, 105, 110, 103]⟩, .string ⟨#[102, 105, 108, 109]⟩] rfl (by decide) 2 rfl) (two_fit _ _ (by decide) (by decide)) (by decide) (by decide)).mono ?_
  rintro e w18 ⟨rfl, b18⟩
  rw [q2]
  have T18 := Lib.hid (X17.trans (b18.mono X17.size))
  clear b18 z0 z1 X17
  have X18 : Below w7.heap.size w7 (w18.alloc (.cells #[.string ⟨#[110, 105, 103, 104, 116]⟩] 9)) := T18.out.trans ((al w18 _).mono T18.out.size)
  have z0 := keep1 X18 Z0.out
  have z1 := keep1 X18 Z1.out
  go_wp2_with fail
  refine (wins_any (.slice a exL.length 3) _ exL [bNight] bLamp pw _ (HS7.out.step X18) (names_lit w18 [bNight] #[.string ⟨#[110, 105, 103, 104, 116]⟩] rfl (by decide) 1 rfl) (one_fit _ (by decide)) (by decide) (by decide)).mono ?_
  rintro e w19 ⟨rfl, b19⟩
  rw [q3]
  have T19 := Lib.hid (X18.trans (b19.mono X18.size))
  clear b19 z0 z1 X18
  go_wp2
  go_ret
  exact ⟨rfl, BA.out.trans (T19.out.mono BA.out.size)⟩
end Go.Proofs.Ytloilkfloidnjaa
