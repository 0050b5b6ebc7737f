/- Sets of tags: law RevokeMatchesReference. -/
import Derived.Test.YtpoldplmaomkaaaRo
namespace Go.Proofs.Ytpoldplmaomkaaa
open Go.RowKit

theorem sls_two (W : World) (a1 : Option Addr) (n1 c1 : Nat) (a2 : Option Addr) (n2 c2 : Nat) (b : Nat) (hb : b = W.heap.size) : SlsAt (W.alloc (.cells #[.slice a1 n1 c1, .slice a2 n2 c2] 24)) (.slice (some ⟨b, 0, none⟩) 2 2) [(a1, n1, c1), (a2, n2, c2)] := by
  have h := Cs.new W b #[.slice a1 n1 c1, .slice a2 n2 c2] 24 hb
  refine ⟨b, 2, rfl, fun i t hi => ?_⟩
  rcases i with _ | _ | i
  · cases hi; exact h.c 0 rfl
  · cases hi; exact h.c 1 rfl
  · cases hi
theorem ints_form {w : World} {v : Value} {l L : List Int} (h : IntsAt w v l) (e : l = L) : ∃ a c, v = .slice a L.length c ∧ IntsAt w (.slice a L.length c) L := by
  subst e
  obtain ⟨a, c, rfl, h1, h2⟩ := h
  exact ⟨a, c, rfl, _, _, rfl, h1, h2⟩
set_option maxRecDepth 100000 in
set_option maxHeartbeats 4000000 in
theorem match_few (va : Value) (m : List Int) (vb : Value) (n : List Int) (tg key id tag : Int) (sl : Value) (l : List Cv) (r v x t u : Int) (w : World) (ha : TgAt w va m) (hb : TgAt w vb n) (hg : -9223372036854775808 ≤ tg ∧ tg ≤ 9223372036854775807) (h : CvsAt w sl l) (hf : ([(0, m.length), (0, n.length)] : List (Nat × Nat)).all (fun q => fwB q.2) = false) : Calls Try.prog 3 #[.agg #[va], .agg #[vb], .int .i64 tg, .int .i64 key, .agg #[.int .i64 id, sl, .int .i64 tag], .agg #[.int .i64 r, .int .i64 v, .int .i64 x, .int .i64 t], .int .i64 u] w fun e w' => e = .returned (.bool true) ∧ Below w.heap.size w w' := by
  have H := Lib.hid h
  have HA := Lib.hid ha
  have HB := Lib.hid hb
  have HTGB := Lib.hid hg
  clear hg
  obtain ⟨a, cap, rfl, -, hm, -⟩ := h
  obtain ⟨⟨aa, ac, rfl, ham, -⟩, -⟩ := ha
  obtain ⟨⟨ba, bc, rfl, hbm, -⟩, -⟩ := hb
  unfold maxLen at hm ham hbm
  have FW := Lib.hid hf
  clear hf
  have HB0 := Lib.hid (Below.refl w.heap.size w)
  go_enter Try.func3, Try.ntmps3
  have KA_1 := Lib.hid (Cs.new w (w.heap.size) #[.slice aa m.length ac] 24 (by simp))
  have HB2 : Hid (Below w.heap.size w (w.alloc (.cells #[.slice aa m.length ac] 24))) := HB0.out.alloc HB0.out.size _
  clear HB0
  have KA_3 := Lib.hid (KA_1.out.alloc (.cells #[.slice ba n.length bc] 24))
  clear KA_1
  have KB_4 := Lib.hid (Cs.new (w.alloc (.cells #[.slice aa m.length ac] 24)) (w.heap.size + 1) #[.slice ba n.length bc] 24 (by simp))
  have HB5 : Hid (Below w.heap.size w ((w.alloc (.cells #[.slice aa m.length ac] 24)).alloc (.cells #[.slice ba n.length bc] 24))) := HB2.out.alloc HB2.out.size _
  clear HB2
  have KA_6 := Lib.hid (KA_3.out.alloc (.cells #[.int .i64 id, .slice a l.length cap, .int .i64 tag] 27))
  clear KA_3
  have KB_7 := Lib.hid (KB_4.out.alloc (.cells #[.int .i64 id, .slice a l.length cap, .int .i64 tag] 27))
  clear KB_4
  have KC_8 := Lib.hid (Cs.new ((w.alloc (.cells #[.slice aa m.length ac] 24)).alloc (.cells #[.slice ba n.length bc] 24)) (w.heap.size + 1 + 1) #[.int .i64 id, .slice a l.length cap, .int .i64 tag] 27 (by simp))
  have HB9 : Hid (Below w.heap.size w (((w.alloc (.cells #[.slice aa m.length ac] 24)).alloc (.cells #[.slice ba n.length bc] 24)).alloc (.cells #[.int .i64 id, .slice a l.length cap, .int .i64 tag] 27))) := HB5.out.alloc HB5.out.size _
  clear HB5
  have KA_10 := Lib.hid (KA_6.out.alloc (.cells #[.int .i64 r, .int .i64 v, .int .i64 x, .int .i64 t] 29))
  clear KA_6
  have KB_11 := Lib.hid (KB_7.out.alloc (.cells #[.int .i64 r, .int .i64 v, .int .i64 x, .int .i64 t] 29))
  clear KB_7
  have KC_12 := Lib.hid (KC_8.out.alloc (.cells #[.int .i64 r, .int .i64 v, .int .i64 x, .int .i64 t] 29))
  clear KC_8
  have KK_13 := Lib.hid (Cs.new (((w.alloc (.cells #[.slice aa m.length ac] 24)).alloc (.cells #[.slice ba n.length bc] 24)).alloc (.cells #[.int .i64 id, .slice a l.length cap, .int .i64 tag] 27)) (w.heap.size + 1 + 1 + 1) #[.int .i64 r, .int .i64 v, .int .i64 x, .int .i64 t] 29 (by simp))
  have HB14 : Hid (Below w.heap.size w ((((w.alloc (.cells #[.slice aa m.length ac] 24)).alloc (.cells #[.slice ba n.length bc] 24)).alloc (.cells #[.int .i64 id, .slice a l.length cap, .int .i64 tag] 27)).alloc (.cells #[.int .i64 r, .int .i64 v, .int .i64 x, .int .i64 t] 29))) := HB9.out.alloc HB9.out.size _
  clear HB9
  go_wp2_with fail
  refine (head_any _).mono ?_
  rintro e u1 ⟨rfl, b1⟩
  have KA_15 := Lib.hid (KA_10.out.step b1)
  clear KA_10
  have KB_16 := Lib.hid (KB_11.out.step b1)
  clear KB_11
  have KC_17 := Lib.hid (KC_12.out.step b1)
  clear KC_12
  have KK_18 := Lib.hid (KK_13.out.step b1)
  clear KK_13
  have HB19 := Lib.hid (keep2 b1 HB14.out)
  clear HB14 b1
  have xA0 : u1.cell? ⟨w.heap.size, 0, none⟩ = some (.slice aa m.length ac) := KA_15.out.c 0 rfl
  have zA : w.heap.size < u1.heap.size := KA_15.out.2.2
  have z2A : w.heap.size < u1.heap.size + 1 := by omega
  have xB0 : u1.cell? ⟨w.heap.size + 1, 0, none⟩ = some (.slice ba n.length bc) := KB_16.out.c 0 rfl
  have zB : w.heap.size + 1 < u1.heap.size := KB_16.out.2.2
  have z2B : w.heap.size + 1 < u1.heap.size + 1 := by omega
  go_wp2_with fail
  have KA_20 := Lib.hid (KA_15.out.alloc (.cells #[.slice aa m.length ac, .slice ba n.length bc] 24))
  clear KA_15
  have KB_21 := Lib.hid (KB_16.out.alloc (.cells #[.slice aa m.length ac, .slice ba n.length bc] 24))
  clear KB_16
  have KC_22 := Lib.hid (KC_17.out.alloc (.cells #[.slice aa m.length ac, .slice ba n.length bc] 24))
  clear KC_17
  have KK_23 := Lib.hid (KK_18.out.alloc (.cells #[.slice aa m.length ac, .slice ba n.length bc] 24))
  clear KK_18
  have HB24 : Hid (Below w.heap.size w (u1.alloc (.cells #[.slice aa m.length ac, .slice ba n.length bc] 24))) := HB19.out.alloc HB19.out.size _
  clear HB19
  refine (few_any _ [(aa, m.length, ac), (ba, n.length, bc)] _ (sls_two u1 aa m.length ac ba n.length bc u1.heap.size rfl) (by simp) (by intro q hq; simp at hq; rcases hq with rfl | rfl <;> (unfold maxLen; simp only; omega))).mono ?_
  rintro e w' ⟨rfl, rfl⟩
  rw [show ([(aa, m.length, ac), (ba, n.length, bc)] : List (Option Addr × Nat × Nat)).all (fun q => fwB q.2.1) = false from FW.out]
  clear xA0 zA z2A xB0 zB z2B
  go_wp2
  go_ret
  exact ⟨rfl, HB24.out⟩
set_option maxRecDepth 100000 in
set_option maxHeartbeats 4000000 in
theorem match_len (va : Value) (m : List Int) (vb : Value) (n : List Int) (tg key id tag : Int) (sl : Value) (l : List Cv) (r v x t u : Int) (w : World) (ha : TgAt w va m) (hb : TgAt w vb n) (hg : -9223372036854775808 ≤ tg ∧ tg ≤ 9223372036854775807) (h : CvsAt w sl l) (hf : ([(0, m.length), (0, n.length)] : List (Nat × Nat)).all (fun q => fwB q.2) = true) (h3 : 20 < l.length) : Calls Try.prog 3 #[.agg #[va], .agg #[vb], .int .i64 tg, .int .i64 key, .agg #[.int .i64 id, sl, .int .i64 tag], .agg #[.int .i64 r, .int .i64 v, .int .i64 x, .int .i64 t], .int .i64 u] w fun e w' => e = .returned (.bool true) ∧ Below w.heap.size w w' := by
  have H := Lib.hid h
  have HA := Lib.hid ha
  have HB := Lib.hid hb
  have HTGB := Lib.hid hg
  clear hg
  obtain ⟨a, cap, rfl, -, hm, -⟩ := h
  obtain ⟨⟨aa, ac, rfl, ham, -⟩, -⟩ := ha
  obtain ⟨⟨ba, bc, rfl, hbm, -⟩, -⟩ := hb
  unfold maxLen at hm ham hbm
  have FW := Lib.hid hf
  clear hf
  have g3 : decide (((l).length : Int) > 20) = true := by simp; omega
  have g3' : decide ((20 : Int) < ((l).length : Int)) = true := by simp; omega
  have HB0 := Lib.hid (Below.refl w.heap.size w)
  go_enter Try.func3, Try.ntmps3
  have KA_1 := Lib.hid (Cs.new w (w.heap.size) #[.slice aa m.length ac] 24 (by simp))
  have HB2 : Hid (Below w.heap.size w (w.alloc (.cells #[.slice aa m.length ac] 24))) := HB0.out.alloc HB0.out.size _
  clear HB0
  have KA_3 := Lib.hid (KA_1.out.alloc (.cells #[.slice ba n.length bc] 24))
  clear KA_1
  have KB_4 := Lib.hid (Cs.new (w.alloc (.cells #[.slice aa m.length ac] 24)) (w.heap.size + 1) #[.slice ba n.length bc] 24 (by simp))
  have HB5 : Hid (Below w.heap.size w ((w.alloc (.cells #[.slice aa m.length ac] 24)).alloc (.cells #[.slice ba n.length bc] 24))) := HB2.out.alloc HB2.out.size _
  clear HB2
  have KA_6 := Lib.hid (KA_3.out.alloc (.cells #[.int .i64 id, .slice a l.length cap, .int .i64 tag] 27))
  clear KA_3
  have KB_7 := Lib.hid (KB_4.out.alloc (.cells #[.int .i64 id, .slice a l.length cap, .int .i64 tag] 27))
  clear KB_4
  have KC_8 := Lib.hid (Cs.new ((w.alloc (.cells #[.slice aa m.length ac] 24)).alloc (.cells #[.slice ba n.length bc] 24)) (w.heap.size + 1 + 1) #[.int .i64 id, .slice a l.length cap, .int .i64 tag] 27 (by simp))
  have HB9 : Hid (Below w.heap.size w (((w.alloc (.cells #[.slice aa m.length ac] 24)).alloc (.cells #[.slice ba n.length bc] 24)).alloc (.cells #[.int .i64 id, .slice a l.length cap, .int .i64 tag] 27))) := HB5.out.alloc HB5.out.size _
  clear HB5
  have KA_10 := Lib.hid (KA_6.out.alloc (.cells #[.int .i64 r, .int .i64 v, .int .i64 x, .int .i64 t] 29))
  clear KA_6
  have KB_11 := Lib.hid (KB_7.out.alloc (.cells #[.int .i64 r, .int .i64 v, .int .i64 x, .int .i64 t] 29))
  clear KB_7
  have KC_12 := Lib.hid (KC_8.out.alloc (.cells #[.int .i64 r, .int .i64 v, .int .i64 x, .int .i64 t] 29))
  clear KC_8
  have KK_13 := Lib.hid (Cs.new (((w.alloc (.cells #[.slice aa m.length ac] 24)).alloc (.cells #[.slice ba n.length bc] 24)).alloc (.cells #[.int .i64 id, .slice a l.length cap, .int .i64 tag] 27)) (w.heap.size + 1 + 1 + 1) #[.int .i64 r, .int .i64 v, .int .i64 x, .int .i64 t] 29 (by simp))
  have HB14 : Hid (Below w.heap.size w ((((w.alloc (.cells #[.slice aa m.length ac] 24)).alloc (.cells #[.slice ba n.length bc] 24)).alloc (.cells #[.int .i64 id, .slice a l.length cap, .int .i64 tag] 27)).alloc (.cells #[.int .i64 r, .int .i64 v, .int .i64 x, .int .i64 t] 29))) := HB9.out.alloc HB9.out.size _
  clear HB9
  go_wp2_with fail
  refine (head_any _).mono ?_
  rintro e u1 ⟨rfl, b1⟩
  have KA_15 := Lib.hid (KA_10.out.step b1)
  clear KA_10
  have KB_16 := Lib.hid (KB_11.out.step b1)
  clear KB_11
  have KC_17 := Lib.hid (KC_12.out.step b1)
  clear KC_12
  have KK_18 := Lib.hid (KK_13.out.step b1)
  clear KK_13
  have HB19 := Lib.hid (keep2 b1 HB14.out)
  clear HB14 b1
  have xA0 : u1.cell? ⟨w.heap.size, 0, none⟩ = some (.slice aa m.length ac) := KA_15.out.c 0 rfl
  have zA : w.heap.size < u1.heap.size := KA_15.out.2.2
  have z2A : w.heap.size < u1.heap.size + 1 := by omega
  have xB0 : u1.cell? ⟨w.heap.size + 1, 0, none⟩ = some (.slice ba n.length bc) := KB_16.out.c 0 rfl
  have zB : w.heap.size + 1 < u1.heap.size := KB_16.out.2.2
  have z2B : w.heap.size + 1 < u1.heap.size + 1 := by omega
  go_wp2_with fail
  have KA_20 := Lib.hid (KA_15.out.alloc (.cells #[.slice aa m.length ac, .slice ba n.length bc] 24))
  clear KA_15
  have KB_21 := Lib.hid (KB_16.out.alloc (.cells #[.slice aa m.length ac, .slice ba n.length bc] 24))
  clear KB_16
  have KC_22 := Lib.hid (KC_17.out.alloc (.cells #[.slice aa m.length ac, .slice ba n.length bc] 24))
  clear KC_17
  have KK_23 := Lib.hid (KK_18.out.alloc (.cells #[.slice aa m.length ac, .slice ba n.length bc] 24))
  clear KK_18
  have HB24 : Hid (Below w.heap.size w (u1.alloc (.cells #[.slice aa m.length ac, .slice ba n.length bc] 24))) := HB19.out.alloc HB19.out.size _
  clear HB19
  refine (few_any _ [(aa, m.length, ac), (ba, n.length, bc)] _ (sls_two u1 aa m.length ac ba n.length bc u1.heap.size rfl) (by simp) (by intro q hq; simp at hq; rcases hq with rfl | rfl <;> (unfold maxLen; simp only; omega))).mono ?_
  rintro e w' ⟨rfl, rfl⟩
  rw [show ([(aa, m.length, ac), (ba, n.length, bc)] : List (Option Addr × Nat × Nat)).all (fun q => fwB q.2.1) = true from FW.out]
  clear xA0 zA z2A xB0 zB z2B
  have xC0 : (u1.alloc (.cells #[.slice aa m.length ac, .slice ba n.length bc] 24)).cell? ⟨w.heap.size + 1 + 1, 0, none⟩ = some (.int .i64 id) := KC_22.out.c 0 rfl
  have xC1 : (u1.alloc (.cells #[.slice aa m.length ac, .slice ba n.length bc] 24)).cell? ⟨w.heap.size + 1 + 1, 1, none⟩ = some (.slice a l.length cap) := KC_22.out.c 1 rfl
  have xC2 : (u1.alloc (.cells #[.slice aa m.length ac, .slice ba n.length bc] 24)).cell? ⟨w.heap.size + 1 + 1, 2, none⟩ = some (.int .i64 tag) := KC_22.out.c 2 rfl
  have zC : w.heap.size + 1 + 1 < (u1.alloc (.cells #[.slice aa m.length ac, .slice ba n.length bc] 24)).heap.size := KC_22.out.2.2
  have z2C : w.heap.size + 1 + 1 < (u1.alloc (.cells #[.slice aa m.length ac, .slice ba n.length bc] 24)).heap.size + 1 := by omega
  go_wp2
  go_ret
  exact ⟨rfl, HB24.out⟩
set_option maxRecDepth 100000 in
set_option maxHeartbeats 4000000 in
theorem match_ok (va : Value) (m : List Int) (vb : Value) (n : List Int) (tg key id tag : Int) (sl : Value) (l : List Cv) (r v x t u : Int) (w : World) (ha : TgAt w va m) (hb : TgAt w vb n) (hg : -9223372036854775808 ≤ tg ∧ tg ≤ 9223372036854775807) (h : CvsAt w sl l) (hf : ([(0, m.length), (0, n.length)] : List (Nat × Nat)).all (fun q => fwB q.2) = true) (h3 : l.length ≤ 20) : Calls Try.prog 3 #[.agg #[va], .agg #[vb], .int .i64 tg, .int .i64 key, .agg #[.int .i64 id, sl, .int .i64 tag], .agg #[.int .i64 r, .int .i64 v, .int .i64 x, .int .i64 t], .int .i64 u] w fun e w' => e = .returned (.bool true) ∧ Below w.heap.size w w' := by
  have H := Lib.hid h
  have HA := Lib.hid ha
  have HB := Lib.hid hb
  have HTGB := Lib.hid hg
  clear hg
  obtain ⟨a, cap, rfl, -, hm, -⟩ := h
  obtain ⟨⟨aa, ac, rfl, ham, -⟩, -⟩ := ha
  obtain ⟨⟨ba, bc, rfl, hbm, -⟩, -⟩ := hb
  unfold maxLen at hm ham hbm
  have FW := Lib.hid hf
  clear hf
  have g3 : decide (((l).length : Int) > 20) = false := by simp; omega
  have g3' : decide ((20 : Int) < ((l).length : Int)) = false := by simp; omega
  have HB0 := Lib.hid (Below.refl w.heap.size w)
  go_enter Try.func3, Try.ntmps3
  have KA_1 := Lib.hid (Cs.new w (w.heap.size) #[.slice aa m.length ac] 24 (by simp))
  have HB2 : Hid (Below w.heap.size w (w.alloc (.cells #[.slice aa m.length ac] 24))) := HB0.out.alloc HB0.out.size _
  clear HB0
  have KA_3 := Lib.hid (KA_1.out.alloc (.cells #[.slice ba n.length bc] 24))
  clear KA_1
  have KB_4 := Lib.hid (Cs.new (w.alloc (.cells #[.slice aa m.length ac] 24)) (w.heap.size + 1) #[.slice ba n.length bc] 24 (by simp))
  have HB5 : Hid (Below w.heap.size w ((w.alloc (.cells #[.slice aa m.length ac] 24)).alloc (.cells #[.slice ba n.length bc] 24))) := HB2.out.alloc HB2.out.size _
  clear HB2
  have KA_6 := Lib.hid (KA_3.out.alloc (.cells #[.int .i64 id, .slice a l.length cap, .int .i64 tag] 27))
  clear KA_3
  have KB_7 := Lib.hid (KB_4.out.alloc (.cells #[.int .i64 id, .slice a l.length cap, .int .i64 tag] 27))
  clear KB_4
  have KC_8 := Lib.hid (Cs.new ((w.alloc (.cells #[.slice aa m.length ac] 24)).alloc (.cells #[.slice ba n.length bc] 24)) (w.heap.size + 1 + 1) #[.int .i64 id, .slice a l.length cap, .int .i64 tag] 27 (by simp))
  have HB9 : Hid (Below w.heap.size w (((w.alloc (.cells #[.slice aa m.length ac] 24)).alloc (.cells #[.slice ba n.length bc] 24)).alloc (.cells #[.int .i64 id, .slice a l.length cap, .int .i64 tag] 27))) := HB5.out.alloc HB5.out.size _
  clear HB5
  have KA_10 := Lib.hid (KA_6.out.alloc (.cells #[.int .i64 r, .int .i64 v, .int .i64 x, .int .i64 t] 29))
  clear KA_6
  have KB_11 := Lib.hid (KB_7.out.alloc (.cells #[.int .i64 r, .int .i64 v, .int .i64 x, .int .i64 t] 29))
  clear KB_7
  have KC_12 := Lib.hid (KC_8.out.alloc (.cells #[.int .i64 r, .int .i64 v, .int .i64 x, .int .i64 t] 29))
  clear KC_8
  have KK_13 := Lib.hid (Cs.new (((w.alloc (.cells #[.slice aa m.length ac] 24)).alloc (.cells #[.slice ba n.length bc] 24)).alloc (.cells #[.int .i64 id, .slice a l.length cap, .int .i64 tag] 27)) (w.heap.size + 1 + 1 + 1) #[.int .i64 r, .int .i64 v, .int .i64 x, .int .i64 t] 29 (by simp))
  have HB14 : Hid (Below w.heap.size w ((((w.alloc (.cells #[.slice aa m.length ac] 24)).alloc (.cells #[.slice ba n.length bc] 24)).alloc (.cells #[.int .i64 id, .slice a l.length cap, .int .i64 tag] 27)).alloc (.cells #[.int .i64 r, .int .i64 v, .int .i64 x, .int .i64 t] 29))) := HB9.out.alloc HB9.out.size _
  clear HB9
  go_wp2_with fail
  refine (head_any _).mono ?_
  rintro e u1 ⟨rfl, b1⟩
  have KA_15 := Lib.hid (KA_10.out.step b1)
  clear KA_10
  have KB_16 := Lib.hid (KB_11.out.step b1)
  clear KB_11
  have KC_17 := Lib.hid (KC_12.out.step b1)
  clear KC_12
  have KK_18 := Lib.hid (KK_13.out.step b1)
  clear KK_13
  have HB19 := Lib.hid (keep2 b1 HB14.out)
  clear HB14 b1
  have xA0 : u1.cell? ⟨w.heap.size, 0, none⟩ = some (.slice aa m.length ac) := KA_15.out.c 0 rfl
  have zA : w.heap.size < u1.heap.size := KA_15.out.2.2
  have z2A : w.heap.size < u1.heap.size + 1 := by omega
  have xB0 : u1.cell? ⟨w.heap.size + 1, 0, none⟩ = some (.slice ba n.length bc) := KB_16.out.c 0 rfl
  have zB : w.heap.size + 1 < u1.heap.size := KB_16.out.2.2
  have z2B : w.heap.size + 1 < u1.heap.size + 1 := by omega
  go_wp2_with fail
  have KA_20 := Lib.hid (KA_15.out.alloc (.cells #[.slice aa m.length ac, .slice ba n.length bc] 24))
  clear KA_15
  have KB_21 := Lib.hid (KB_16.out.alloc (.cells #[.slice aa m.length ac, .slice ba n.length bc] 24))
  clear KB_16
  have KC_22 := Lib.hid (KC_17.out.alloc (.cells #[.slice aa m.length ac, .slice ba n.length bc] 24))
  clear KC_17
  have KK_23 := Lib.hid (KK_18.out.alloc (.cells #[.slice aa m.length ac, .slice ba n.length bc] 24))
  clear KK_18
  have HB24 : Hid (Below w.heap.size w (u1.alloc (.cells #[.slice aa m.length ac, .slice ba n.length bc] 24))) := HB19.out.alloc HB19.out.size _
  clear HB19
  refine (few_any _ [(aa, m.length, ac), (ba, n.length, bc)] _ (sls_two u1 aa m.length ac ba n.length bc u1.heap.size rfl) (by simp) (by intro q hq; simp at hq; rcases hq with rfl | rfl <;> (unfold maxLen; simp only; omega))).mono ?_
  rintro e w' ⟨rfl, rfl⟩
  rw [show ([(aa, m.length, ac), (ba, n.length, bc)] : List (Option Addr × Nat × Nat)).all (fun q => fwB q.2.1) = true from FW.out]
  clear xA0 zA z2A xB0 zB z2B
  have xC0 : (u1.alloc (.cells #[.slice aa m.length ac, .slice ba n.length bc] 24)).cell? ⟨w.heap.size + 1 + 1, 0, none⟩ = some (.int .i64 id) := KC_22.out.c 0 rfl
  have xC1 : (u1.alloc (.cells #[.slice aa m.length ac, .slice ba n.length bc] 24)).cell? ⟨w.heap.size + 1 + 1, 1, none⟩ = some (.slice a l.length cap) := KC_22.out.c 1 rfl
  have xC2 : (u1.alloc (.cells #[.slice aa m.length ac, .slice ba n.length bc] 24)).cell? ⟨w.heap.size + 1 + 1, 2, none⟩ = some (.int .i64 tag) := KC_22.out.c 2 rfl
  have zC : w.heap.size + 1 + 1 < (u1.alloc (.cells #[.slice aa m.length ac, .slice ba n.length bc] 24)).heap.size := KC_22.out.2.2
  have z2C : w.heap.size + 1 + 1 < (u1.alloc (.cells #[.slice aa m.length ac, .slice ba n.length bc] 24)).heap.size + 1 := by omega
  have xA0 : (u1.alloc (.cells #[.slice aa m.length ac, .slice ba n.length bc] 24)).cell? ⟨w.heap.size, 0, none⟩ = some (.slice aa m.length ac) := KA_20.out.c 0 rfl
  have zA : w.heap.size < (u1.alloc (.cells #[.slice aa m.length ac, .slice ba n.length bc] 24)).heap.size := KA_20.out.2.2
  have z2A : w.heap.size < (u1.alloc (.cells #[.slice aa m.length ac, .slice ba n.length bc] 24)).heap.size + 1 := by omega
  go_wp2_with fail
  refine (add_any _ m tg _ (HA.out.step HB24.out)).mono ?_
  rintro e u24 ⟨⟨um, rfl, hum⟩, b24⟩
  obtain ⟨R1, hE1⟩ : ∃ R1, mgE m [tg] = R1 := ⟨_, rfl⟩
  obtain ⟨L1, hL1⟩ : ∃ L1, mgL m [tg] = L1 := ⟨_, rfl⟩
  rw [hE1]
  obtain ⟨pa, pc, rfl, htm⟩ := row_tg hum hL1 rfl
  have HP := Lib.hid htm
  clear hum htm
  replace hE1 := Lib.hid hE1
  replace hL1 := Lib.hid hL1
  clear xC0 xC1 xC2 zC z2C xA0 zA z2A
  have KA_25 := Lib.hid (KA_20.out.step b24)
  clear KA_20
  have KB_26 := Lib.hid (KB_21.out.step b24)
  clear KB_21
  have KC_27 := Lib.hid (KC_22.out.step b24)
  clear KC_22
  have KK_28 := Lib.hid (KK_23.out.step b24)
  clear KK_23
  have HB29 := Lib.hid (keep2 b24 HB24.out)
  clear HB24 b24
  replace HP := Lib.hid (HP.out.step (al u24 (.cells #[.slice pa L1.length pc] 24)))
  have KA_30 := Lib.hid (KA_25.out.alloc (.cells #[.slice pa L1.length pc] 24))
  clear KA_25
  have KB_31 := Lib.hid (KB_26.out.alloc (.cells #[.slice pa L1.length pc] 24))
  clear KB_26
  have KC_32 := Lib.hid (KC_27.out.alloc (.cells #[.slice pa L1.length pc] 24))
  clear KC_27
  have KK_33 := Lib.hid (KK_28.out.alloc (.cells #[.slice pa L1.length pc] 24))
  clear KK_28
  have KP_34 := Lib.hid (Cs.new u24 (u24.heap.size) #[.slice pa L1.length pc] 24 (by simp))
  have HB35 : Hid (Below w.heap.size w (u24.alloc (.cells #[.slice pa L1.length pc] 24))) := HB29.out.alloc HB29.out.size _
  clear HB29
  have xA0 : (u24.alloc (.cells #[.slice pa L1.length pc] 24)).cell? ⟨w.heap.size, 0, none⟩ = some (.slice aa m.length ac) := KA_30.out.c 0 rfl
  have zA : w.heap.size < (u24.alloc (.cells #[.slice pa L1.length pc] 24)).heap.size := KA_30.out.2.2
  have z2A : w.heap.size < (u24.alloc (.cells #[.slice pa L1.length pc] 24)).heap.size + 1 := by omega
  go_wp2_with fail
  refine (radd_any _ m tg _ (HA.out.step HB35.out).1).mono ?_
  rintro e u25 ⟨⟨um, rfl, hum⟩, b25⟩
  rw [hE1.out]
  obtain ⟨qa, qc, rfl, htm⟩ := ints_form hum hL1.out
  have HQ := Lib.hid htm
  clear hum htm
  replace HP := Lib.hid (HP.out.step b25)
  clear xA0 zA z2A
  have KA_36 := Lib.hid (KA_30.out.step b25)
  clear KA_30
  have KB_37 := Lib.hid (KB_31.out.step b25)
  clear KB_31
  have KC_38 := Lib.hid (KC_32.out.step b25)
  clear KC_32
  have KK_39 := Lib.hid (KK_33.out.step b25)
  clear KK_33
  have KP_40 := Lib.hid (KP_34.out.step b25)
  clear KP_34
  have HB41 := Lib.hid (keep2 b25 HB35.out)
  clear HB35 b25
  replace HP := Lib.hid (HP.out.step (al u25 (.cells #[.slice qa L1.length qc] 24)))
  replace HQ := Lib.hid (HQ.out.step (al u25 (.cells #[.slice qa L1.length qc] 24)))
  have KA_42 := Lib.hid (KA_36.out.alloc (.cells #[.slice qa L1.length qc] 24))
  clear KA_36
  have KB_43 := Lib.hid (KB_37.out.alloc (.cells #[.slice qa L1.length qc] 24))
  clear KB_37
  have KC_44 := Lib.hid (KC_38.out.alloc (.cells #[.slice qa L1.length qc] 24))
  clear KC_38
  have KK_45 := Lib.hid (KK_39.out.alloc (.cells #[.slice qa L1.length qc] 24))
  clear KK_39
  have KP_46 := Lib.hid (KP_40.out.alloc (.cells #[.slice qa L1.length qc] 24))
  clear KP_40
  have KQ_47 := Lib.hid (Cs.new u25 (u25.heap.size) #[.slice qa L1.length qc] 24 (by simp))
  have HB48 : Hid (Below w.heap.size w (u25.alloc (.cells #[.slice qa L1.length qc] 24))) := HB41.out.alloc HB41.out.size _
  clear HB41
  have xA0 : (u25.alloc (.cells #[.slice qa L1.length qc] 24)).cell? ⟨w.heap.size, 0, none⟩ = some (.slice aa m.length ac) := KA_42.out.c 0 rfl
  have zA : w.heap.size < (u25.alloc (.cells #[.slice qa L1.length qc] 24)).heap.size := KA_42.out.2.2
  have z2A : w.heap.size < (u25.alloc (.cells #[.slice qa L1.length qc] 24)).heap.size + 1 := by omega
  have xB0 : (u25.alloc (.cells #[.slice qa L1.length qc] 24)).cell? ⟨w.heap.size + 1, 0, none⟩ = some (.slice ba n.length bc) := KB_43.out.c 0 rfl
  have zB : w.heap.size + 1 < (u25.alloc (.cells #[.slice qa L1.length qc] 24)).heap.size := KB_43.out.2.2
  have z2B : w.heap.size + 1 < (u25.alloc (.cells #[.slice qa L1.length qc] 24)).heap.size + 1 := by omega
  go_wp2_with fail
  refine (merge2_any _ _ m n _ (HA.out.step HB48.out) (HB.out.step HB48.out)).mono ?_
  rintro e u26 ⟨⟨um, rfl, hum⟩, b26⟩
  obtain ⟨R2, hE2⟩ : ∃ R2, mgE m n = R2 := ⟨_, rfl⟩
  obtain ⟨L2, hL2⟩ : ∃ L2, mgL m n = L2 := ⟨_, rfl⟩
  rw [hE2]
  obtain ⟨ma, mc, rfl, htm⟩ := row_tg hum hL2 rfl
  have HM := Lib.hid htm
  clear hum htm
  replace hE2 := Lib.hid hE2
  replace hL2 := Lib.hid hL2
  replace HP := Lib.hid (HP.out.step b26)
  replace HQ := Lib.hid (HQ.out.step b26)
  clear xA0 zA z2A xB0 zB z2B
  have KA_49 := Lib.hid (KA_42.out.step b26)
  clear KA_42
  have KB_50 := Lib.hid (KB_43.out.step b26)
  clear KB_43
  have KC_51 := Lib.hid (KC_44.out.step b26)
  clear KC_44
  have KK_52 := Lib.hid (KK_45.out.step b26)
  clear KK_45
  have KP_53 := Lib.hid (KP_46.out.step b26)
  clear KP_46
  have KQ_54 := Lib.hid (KQ_47.out.step b26)
  clear KQ_47
  have HB55 := Lib.hid (keep2 b26 HB48.out)
  clear HB48 b26
  replace HP := Lib.hid (HP.out.step (al u26 (.cells #[.slice ma L2.length mc] 24)))
  replace HQ := Lib.hid (HQ.out.step (al u26 (.cells #[.slice ma L2.length mc] 24)))
  replace HM := Lib.hid (HM.out.step (al u26 (.cells #[.slice ma L2.length mc] 24)))
  have KA_56 := Lib.hid (KA_49.out.alloc (.cells #[.slice ma L2.length mc] 24))
  clear KA_49
  have KB_57 := Lib.hid (KB_50.out.alloc (.cells #[.slice ma L2.length mc] 24))
  clear KB_50
  have KC_58 := Lib.hid (KC_51.out.alloc (.cells #[.slice ma L2.length mc] 24))
  clear KC_51
  have KK_59 := Lib.hid (KK_52.out.alloc (.cells #[.slice ma L2.length mc] 24))
  clear KK_52
  have KP_60 := Lib.hid (KP_53.out.alloc (.cells #[.slice ma L2.length mc] 24))
  clear KP_53
  have KQ_61 := Lib.hid (KQ_54.out.alloc (.cells #[.slice ma L2.length mc] 24))
  clear KQ_54
  have KM_62 := Lib.hid (Cs.new u26 (u26.heap.size) #[.slice ma L2.length mc] 24 (by simp))
  have HB63 : Hid (Below w.heap.size w (u26.alloc (.cells #[.slice ma L2.length mc] 24))) := HB55.out.alloc HB55.out.size _
  clear HB55
  have xA0 : (u26.alloc (.cells #[.slice ma L2.length mc] 24)).cell? ⟨w.heap.size, 0, none⟩ = some (.slice aa m.length ac) := KA_56.out.c 0 rfl
  have zA : w.heap.size < (u26.alloc (.cells #[.slice ma L2.length mc] 24)).heap.size := KA_56.out.2.2
  have z2A : w.heap.size < (u26.alloc (.cells #[.slice ma L2.length mc] 24)).heap.size + 1 := by omega
  have xB0 : (u26.alloc (.cells #[.slice ma L2.length mc] 24)).cell? ⟨w.heap.size + 1, 0, none⟩ = some (.slice ba n.length bc) := KB_57.out.c 0 rfl
  have zB : w.heap.size + 1 < (u26.alloc (.cells #[.slice ma L2.length mc] 24)).heap.size := KB_57.out.2.2
  have z2B : w.heap.size + 1 < (u26.alloc (.cells #[.slice ma L2.length mc] 24)).heap.size + 1 := by omega
  go_wp2_with fail
  refine (rmerge_any _ _ m n _ (HA.out.step HB63.out).1 (HB.out.step HB63.out).1).mono ?_
  rintro e u27 ⟨⟨um, rfl, hum⟩, b27⟩
  rw [hE2.out]
  obtain ⟨na, nc, rfl, htm⟩ := ints_form hum hL2.out
  have HN := Lib.hid htm
  clear hum htm
  replace HP := Lib.hid (HP.out.step b27)
  replace HQ := Lib.hid (HQ.out.step b27)
  replace HM := Lib.hid (HM.out.step b27)
  clear xA0 zA z2A xB0 zB z2B
  have KA_64 := Lib.hid (KA_56.out.step b27)
  clear KA_56
  have KB_65 := Lib.hid (KB_57.out.step b27)
  clear KB_57
  have KC_66 := Lib.hid (KC_58.out.step b27)
  clear KC_58
  have KK_67 := Lib.hid (KK_59.out.step b27)
  clear KK_59
  have KP_68 := Lib.hid (KP_60.out.step b27)
  clear KP_60
  have KQ_69 := Lib.hid (KQ_61.out.step b27)
  clear KQ_61
  have KM_70 := Lib.hid (KM_62.out.step b27)
  clear KM_62
  have HB71 := Lib.hid (keep2 b27 HB63.out)
  clear HB63 b27
  replace HP := Lib.hid (HP.out.step (al u27 (.cells #[.slice na L2.length nc] 24)))
  replace HQ := Lib.hid (HQ.out.step (al u27 (.cells #[.slice na L2.length nc] 24)))
  replace HM := Lib.hid (HM.out.step (al u27 (.cells #[.slice na L2.length nc] 24)))
  replace HN := Lib.hid (HN.out.step (al u27 (.cells #[.slice na L2.length nc] 24)))
  have KA_72 := Lib.hid (KA_64.out.alloc (.cells #[.slice na L2.length nc] 24))
  clear KA_64
  have KB_73 := Lib.hid (KB_65.out.alloc (.cells #[.slice na L2.length nc] 24))
  clear KB_65
  have KC_74 := Lib.hid (KC_66.out.alloc (.cells #[.slice na L2.length nc] 24))
  clear KC_66
  have KK_75 := Lib.hid (KK_67.out.alloc (.cells #[.slice na L2.length nc] 24))
  clear KK_67
  have KP_76 := Lib.hid (KP_68.out.alloc (.cells #[.slice na L2.length nc] 24))
  clear KP_68
  have KQ_77 := Lib.hid (KQ_69.out.alloc (.cells #[.slice na L2.length nc] 24))
  clear KQ_69
  have KM_78 := Lib.hid (KM_70.out.alloc (.cells #[.slice na L2.length nc] 24))
  clear KM_70
  have KN_79 := Lib.hid (Cs.new u27 (u27.heap.size) #[.slice na L2.length nc] 24 (by simp))
  have HB80 : Hid (Below w.heap.size w (u27.alloc (.cells #[.slice na L2.length nc] 24))) := HB71.out.alloc HB71.out.size _
  clear HB71
  obtain ⟨bb, hbb⟩ : ∃ bb, hsB m tg = bb := ⟨_, rfl⟩
  replace hbb := Lib.hid hbb
  obtain ⟨V, hV⟩ : ∃ V, ckR key m id tag l r v x t u = V := ⟨_, rfl⟩
  replace hV := Lib.hid hV
  go_wp2_with fail
  obtain ⟨lit, hlit⟩ : ∃ lit : (Nat → Value) → Act, lit = fun vs => { tmps := List.toArray (Value.agg #[Value.slice aa m.length ac] :: Value.agg #[Value.slice ba n.length bc] :: Value.int IntKind.i64 tg :: Value.int IntKind.i64 key :: Value.agg #[Value.int IntKind.i64 id, Value.slice a l.length cap, Value.int IntKind.i64 tag] :: Value.agg #[Value.int IntKind.i64 r, Value.int IntKind.i64 v, Value.int IntKind.i64 x, Value.int IntKind.i64 t] :: Value.int IntKind.i64 u :: Value.pointer (some { block := w.heap.size, off := 0 }) :: Value.pointer (some { block := w.heap.size + 1, off := 0 }) :: undef :: undef :: Value.pointer (some { block := w.heap.size + 1 + 1, off := 0 }) :: Value.pointer (some { block := w.heap.size + 1 + 1 + 1, off := 0 }) :: undef :: vs 45 :: Value.bool true :: Value.pointer (some { block := u24.heap.size, off := 0 }) :: Value.int IntKind.i64 R1 :: Value.pointer (some { block := u25.heap.size, off := 0 }) :: Value.int IntKind.i64 R1 :: Value.pointer (some { block := u26.heap.size, off := 0 }) :: Value.int IntKind.i64 R2 :: Value.pointer (some { block := u27.heap.size, off := 0 }) :: Value.int IntKind.i64 R2 :: Value.bool true :: Value.agg #[Value.slice aa m.length ac] :: Value.agg #[Value.slice ba n.length bc] :: Value.slice (some { block := u1.heap.size, off := 0 }) 2 2 :: Value.bool true :: Value.bool false :: Value.bool false :: Value.pointer (some { block := w.heap.size + 1 + 1, off := 1 }) :: Value.slice a l.length cap :: Value.int IntKind.i64 (l.length : Int) :: Value.bool false :: Value.bool false :: undef :: Value.tuple #[Value.agg #[Value.slice pa L1.length pc], Value.int IntKind.i64 R1] :: Value.agg #[Value.slice aa m.length ac] :: Value.int IntKind.i64 tg :: Value.tuple #[Value.agg #[Value.slice pa L1.length pc], Value.int IntKind.i64 R1] :: Value.agg #[Value.slice pa L1.length pc] :: Value.int IntKind.i64 R1 :: Value.tuple #[Value.agg #[Value.slice qa L1.length qc], Value.int IntKind.i64 R1] :: Value.agg #[Value.slice aa m.length ac] :: Value.int IntKind.i64 tg :: Value.tuple #[Value.agg #[Value.slice qa L1.length qc], Value.int IntKind.i64 R1] :: Value.agg #[Value.slice qa L1.length qc] :: Value.int IntKind.i64 R1 :: Value.tuple #[Value.agg #[Value.slice ma L2.length mc], Value.int IntKind.i64 R2] :: Value.agg #[Value.slice aa m.length ac] :: Value.agg #[Value.slice ba n.length bc] :: Value.tuple #[Value.agg #[Value.slice ma L2.length mc], Value.int IntKind.i64 R2] :: Value.agg #[Value.slice ma L2.length mc] :: Value.int IntKind.i64 R2 :: Value.tuple #[Value.agg #[Value.slice na L2.length nc], Value.int IntKind.i64 R2] :: Value.agg #[Value.slice aa m.length ac] :: Value.agg #[Value.slice ba n.length bc] :: Value.tuple #[Value.agg #[Value.slice na L2.length nc], Value.int IntKind.i64 R2] :: Value.agg #[Value.slice na L2.length nc] :: Value.int IntKind.i64 R2 :: vs 0 :: vs 1 :: vs 2 :: vs 3 :: vs 4 :: vs 5 :: vs 6 :: vs 7 :: vs 8 :: vs 9 :: vs 10 :: vs 11 :: vs 12 :: vs 13 :: vs 14 :: vs 15 :: vs 16 :: vs 17 :: vs 18 :: vs 19 :: vs 20 :: vs 21 :: vs 22 :: vs 23 :: vs 24 :: vs 25 :: vs 26 :: vs 27 :: vs 28 :: vs 29 :: vs 30 :: vs 31 :: vs 32 :: vs 33 :: vs 34 :: vs 35 :: vs 36 :: vs 37 :: vs 38 :: vs 39 :: vs 40 :: vs 41 :: vs 42 :: vs 43 :: vs 44 :: []), defers := [] } := ⟨_, rfl⟩
  have HLIT := Lib.hid hlit
  clear hlit
  obtain ⟨val, hval⟩ : ∃ val : List Value, val = [.bool true, .bool true, .int .i64 R1, .int .i64 R1, .bool true, .bool true, .bool true, .agg #[.slice pa L1.length pc], .agg #[.slice qa L1.length qc], .bool true, .bool true, .bool true, .int .i64 R2, .int .i64 R2, .bool true, .bool true, .bool true, .agg #[.slice ma L2.length mc], .agg #[.slice na L2.length nc], .bool true, .bool true, .bool true, .agg #[.slice aa m.length ac], .int .i64 tg, .bool bb, .agg #[.slice aa m.length ac], .int .i64 tg, .bool bb, .bool true, .bool true, .bool true, .int .i64 key, .agg #[.slice aa m.length ac], .agg #[.int .i64 id, .slice a l.length cap, .int .i64 tag], .agg #[.int .i64 r, .int .i64 v, .int .i64 x, .int .i64 t], .int .i64 u, .int .i64 V, .int .i64 key, .agg #[.slice aa m.length ac], .agg #[.int .i64 id, .slice a l.length cap, .int .i64 tag], .agg #[.int .i64 r, .int .i64 v, .int .i64 x, .int .i64 t], .int .i64 u, .int .i64 V, .bool true, .bool true, .bool true] := ⟨_, rfl⟩
  have E0 := Lib.hid (show val.getD 0 undef = .bool true by rw [hval]; rfl)
  have E1 := Lib.hid (show val.getD 1 undef = .bool true by rw [hval]; rfl)
  have E2 := Lib.hid (show val.getD 2 undef = .int .i64 R1 by rw [hval]; rfl)
  have E3 := Lib.hid (show val.getD 3 undef = .int .i64 R1 by rw [hval]; rfl)
  have E4 := Lib.hid (show val.getD 4 undef = .bool true by rw [hval]; rfl)
  have E5 := Lib.hid (show val.getD 5 undef = .bool true by rw [hval]; rfl)
  have E6 := Lib.hid (show val.getD 6 undef = .bool true by rw [hval]; rfl)
  have E7 := Lib.hid (show val.getD 7 undef = .agg #[.slice pa L1.length pc] by rw [hval]; rfl)
  have E8 := Lib.hid (show val.getD 8 undef = .agg #[.slice qa L1.length qc] by rw [hval]; rfl)
  have E9 := Lib.hid (show val.getD 9 undef = .bool true by rw [hval]; rfl)
  have E10 := Lib.hid (show val.getD 10 undef = .bool true by rw [hval]; rfl)
  have E11 := Lib.hid (show val.getD 11 undef = .bool true by rw [hval]; rfl)
  have E12 := Lib.hid (show val.getD 12 undef = .int .i64 R2 by rw [hval]; rfl)
  have E13 := Lib.hid (show val.getD 13 undef = .int .i64 R2 by rw [hval]; rfl)
  have E14 := Lib.hid (show val.getD 14 undef = .bool true by rw [hval]; rfl)
  have E15 := Lib.hid (show val.getD 15 undef = .bool true by rw [hval]; rfl)
  have E16 := Lib.hid (show val.getD 16 undef = .bool true by rw [hval]; rfl)
  have E17 := Lib.hid (show val.getD 17 undef = .agg #[.slice ma L2.length mc] by rw [hval]; rfl)
  have E18 := Lib.hid (show val.getD 18 undef = .agg #[.slice na L2.length nc] by rw [hval]; rfl)
  have E19 := Lib.hid (show val.getD 19 undef = .bool true by rw [hval]; rfl)
  have E20 := Lib.hid (show val.getD 20 undef = .bool true by rw [hval]; rfl)
  have E21 := Lib.hid (show val.getD 21 undef = .bool true by rw [hval]; rfl)
  have E22 := Lib.hid (show val.getD 22 undef = .agg #[.slice aa m.length ac] by rw [hval]; rfl)
  have E23 := Lib.hid (show val.getD 23 undef = .int .i64 tg by rw [hval]; rfl)
  have E24 := Lib.hid (show val.getD 24 undef = .bool bb by rw [hval]; rfl)
  have E25 := Lib.hid (show val.getD 25 undef = .agg #[.slice aa m.length ac] by rw [hval]; rfl)
  have E26 := Lib.hid (show val.getD 26 undef = .int .i64 tg by rw [hval]; rfl)
  have E27 := Lib.hid (show val.getD 27 undef = .bool bb by rw [hval]; rfl)
  have E28 := Lib.hid (show val.getD 28 undef = .bool true by rw [hval]; rfl)
  have E29 := Lib.hid (show val.getD 29 undef = .bool true by rw [hval]; rfl)
  have E30 := Lib.hid (show val.getD 30 undef = .bool true by rw [hval]; rfl)
  have E31 := Lib.hid (show val.getD 31 undef = .int .i64 key by rw [hval]; rfl)
  have E32 := Lib.hid (show val.getD 32 undef = .agg #[.slice aa m.length ac] by rw [hval]; rfl)
  have E33 := Lib.hid (show val.getD 33 undef = .agg #[.int .i64 id, .slice a l.length cap, .int .i64 tag] by rw [hval]; rfl)
  have E34 := Lib.hid (show val.getD 34 undef = .agg #[.int .i64 r, .int .i64 v, .int .i64 x, .int .i64 t] by rw [hval]; rfl)
  have E35 := Lib.hid (show val.getD 35 undef = .int .i64 u by rw [hval]; rfl)
  have E36 := Lib.hid (show val.getD 36 undef = .int .i64 V by rw [hval]; rfl)
  have E37 := Lib.hid (show val.getD 37 undef = .int .i64 key by rw [hval]; rfl)
  have E38 := Lib.hid (show val.getD 38 undef = .agg #[.slice aa m.length ac] by rw [hval]; rfl)
  have E39 := Lib.hid (show val.getD 39 undef = .agg #[.int .i64 id, .slice a l.length cap, .int .i64 tag] by rw [hval]; rfl)
  have E40 := Lib.hid (show val.getD 40 undef = .agg #[.int .i64 r, .int .i64 v, .int .i64 x, .int .i64 t] by rw [hval]; rfl)
  have E41 := Lib.hid (show val.getD 41 undef = .int .i64 u by rw [hval]; rfl)
  have E42 := Lib.hid (show val.getD 42 undef = .int .i64 V by rw [hval]; rfl)
  have E43 := Lib.hid (show val.getD 43 undef = .bool true by rw [hval]; rfl)
  have E44 := Lib.hid (show val.getD 44 undef = .bool true by rw [hval]; rfl)
  have E45 := Lib.hid (show val.getD 45 undef = .bool true by rw [hval]; rfl)
  clear hval
  obtain ⟨G, hG0⟩ : ∃ G : Nat → Value → World → Prop, G = (fun i v w => (v = val.getD i undef)) := ⟨_, rfl⟩
  have HG := Lib.hid hG0
  clear hG0
  refine region_inv (RS lit (u27.alloc (.cells #[.slice na L2.length nc] 24)) G) (by kernel_rfl) (by decide +kernel) ?_ ?_ ?_
  · exact ⟨fun i => ([undef, undef, undef, undef, undef, undef, undef, undef, undef, undef, undef, undef, undef, undef, undef, undef, undef, undef, undef, undef, undef, undef, undef, undef, undef, undef, undef, undef, undef, undef, undef, undef, undef, undef, undef, undef, undef, undef, undef, undef, undef, undef, undef, undef, undef, Value.bool false] : List Value).getD i undef, (by rw [HLIT.out]; rfl), below_drew _ _, fun i h => by cases h⟩
  · refine ⟨?_, ?_, ?_, ?_, ?_, ?_, ?_, ?_, ?_, ?_, ?_, ?_, ?_, ?_, ?_, ?_, ?_, ?_, ?_, ?_, ?_, ?_, ?_, ?_, ?_, ?_, ?_, ?_, ?_, ?_, ?_, ?_, ?_, ?_, ?_, ?_, ?_, ?_, ?_, ?_, ?_, ?_, ?_, ?_, ?_, ?_, trivial⟩
    · intro bf ac wv hfb haf hJ K' hK
      obtain ⟨vs, rfl, hM, j4⟩ := hJ
      replace hK := Lib.hid hK
      replace hM := Lib.hid hM
      rw [HG.out] at j4
      replace j4 := Lib.hid j4
      clear haf hfb
      rw [HLIT.out]
      go_simp
      exact hK.out _ _ (RS.next (wv := wv) (vs := vs) 0 (x := .bool true) (by rw [HLIT.out]; rfl) (by rw [HG.out]; exact j4.out) hM.out (by rw [HG.out]; exact fun _ _ h => h) (by rw [HG.out]; exact E0.out.symm))
    · intro bf ac wv hfb haf hJ K' hK
      obtain ⟨vs, rfl, hM, j4⟩ := hJ
      replace hK := Lib.hid hK
      replace hM := Lib.hid hM
      rw [HG.out] at j4
      simp [Region.binds] at haf
      have e0 := ((j4 0 (by simp [haf]))).trans E0.out
      replace j4 := Lib.hid j4
      clear haf hfb
      rw [HLIT.out]
      go_simp
      exact hK.out _ _ (RS.next (wv := wv) (vs := vs) 1 (x := .bool true) (by rw [HLIT.out]; simp only [upv, e0, Nat.reduceBEq, cond_true, cond_false]) (by rw [HG.out]; exact j4.out) hM.out (by rw [HG.out]; exact fun _ _ h => h) (by rw [HG.out]; exact E1.out.symm))
    · intro bf ac wv hfb haf hJ K' hK
      obtain ⟨vs, rfl, hM, j4⟩ := hJ
      replace hK := Lib.hid hK
      replace hM := Lib.hid hM
      rw [HG.out] at j4
      simp [Region.binds] at haf
      have e1 := ((j4 1 (by simp [haf]))).trans E1.out
      replace j4 := Lib.hid j4
      clear haf hfb
      rw [HLIT.out]
      go_simp
      exact hK.out _ _ (RS.next (wv := wv) (vs := vs) 2 (x := .int .i64 R1) (by rw [HLIT.out]; simp only [upv, e1, Nat.reduceBEq, cond_true, cond_false]) (by rw [HG.out]; exact j4.out) hM.out (by rw [HG.out]; exact fun _ _ h => h) (by rw [HG.out]; exact E2.out.symm))
    · intro bf ac wv hfb haf hJ K' hK
      obtain ⟨vs, rfl, hM, j4⟩ := hJ
      replace hK := Lib.hid hK
      replace hM := Lib.hid hM
      rw [HG.out] at j4
      simp [Region.binds] at haf
      have e1 := ((j4 1 (by simp [haf]))).trans E1.out
      replace j4 := Lib.hid j4
      clear haf hfb
      rw [HLIT.out]
      go_simp
      exact hK.out _ _ (RS.next (wv := wv) (vs := vs) 3 (x := .int .i64 R1) (by rw [HLIT.out]; simp only [upv, e1, Nat.reduceBEq, cond_true, cond_false]) (by rw [HG.out]; exact j4.out) hM.out (by rw [HG.out]; exact fun _ _ h => h) (by rw [HG.out]; exact E3.out.symm))
    · intro bf ac wv hfb haf hJ K' hK
      obtain ⟨vs, rfl, hM, j4⟩ := hJ
      replace hK := Lib.hid hK
      replace hM := Lib.hid hM
      rw [HG.out] at j4
      simp [Region.binds] at haf
      have e1 := ((j4 1 (by simp [haf]))).trans E1.out
      have e2 := ((j4 2 (by simp [haf]))).trans E2.out
      have e3 := ((j4 3 (by simp [haf]))).trans E3.out
      replace j4 := Lib.hid j4
      clear haf hfb
      rw [HLIT.out]
      go_simp
      exact hK.out _ _ (RS.next (wv := wv) (vs := vs) 4 (x := .bool true) (by rw [HLIT.out]; simp only [upv, e1, e2, e3, Nat.reduceBEq, cond_true, cond_false]) (by rw [HG.out]; exact j4.out) hM.out (by rw [HG.out]; exact fun _ _ h => h) (by rw [HG.out]; exact E4.out.symm))
    · intro bf ac wv hfb haf hJ K' hK
      obtain ⟨vs, rfl, hM, j4⟩ := hJ
      replace hK := Lib.hid hK
      replace hM := Lib.hid hM
      rw [HG.out] at j4
      simp [Region.binds] at haf
      have e1 := ((j4 1 (by simp [haf]))).trans E1.out
      have e4 := ((j4 4 (by simp [haf]))).trans E4.out
      replace j4 := Lib.hid j4
      clear haf hfb
      rw [HLIT.out]
      go_simp
      exact hK.out _ _ (RS.next (wv := wv) (vs := vs) 5 (x := .bool true) (by rw [HLIT.out]; simp only [upv, e1, e4, Nat.reduceBEq, cond_true, cond_false]) (by rw [HG.out]; exact j4.out) hM.out (by rw [HG.out]; exact fun _ _ h => h) (by rw [HG.out]; exact E5.out.symm))
    · intro bf ac wv hfb haf hJ K' hK
      obtain ⟨vs, rfl, hM, j4⟩ := hJ
      replace hK := Lib.hid hK
      replace hM := Lib.hid hM
      rw [HG.out] at j4
      simp [Region.binds] at haf
      have e5 := ((j4 5 (by simp [haf]))).trans E5.out
      replace j4 := Lib.hid j4
      clear haf hfb
      rw [HLIT.out]
      go_simp
      exact hK.out _ _ (RS.next (wv := wv) (vs := vs) 6 (x := .bool true) (by rw [HLIT.out]; simp only [upv, e5, Nat.reduceBEq, cond_true, cond_false]) (by rw [HG.out]; exact j4.out) hM.out (by rw [HG.out]; exact fun _ _ h => h) (by rw [HG.out]; exact E6.out.symm))
    · intro bf ac wv hfb haf hJ K' hK
      obtain ⟨vs, rfl, hM, j4⟩ := hJ
      replace hK := Lib.hid hK
      replace hM := Lib.hid hM
      rw [HG.out] at j4
      simp [Region.binds] at haf
      have e6 := ((j4 6 (by simp [haf]))).trans E6.out
      replace j4 := Lib.hid j4
      clear haf hfb
      have K1 := KP_76.out.step hM.out
      have x0 := K1.c 0 rfl
      have xz := K1.2.2
      clear K1
      rw [HLIT.out]
      go_simp
      exact hK.out _ _ (RS.next (wv := wv) (vs := vs) 7 (x := .agg #[.slice pa L1.length pc]) (by rw [HLIT.out]; simp only [upv, e6, Nat.reduceBEq, cond_true, cond_false]) (by rw [HG.out]; exact j4.out) hM.out (by rw [HG.out]; exact fun _ _ h => h) (by rw [HG.out]; exact E7.out.symm))
    · intro bf ac wv hfb haf hJ K' hK
      obtain ⟨vs, rfl, hM, j4⟩ := hJ
      replace hK := Lib.hid hK
      replace hM := Lib.hid hM
      rw [HG.out] at j4
      simp [Region.binds] at haf
      have e6 := ((j4 6 (by simp [haf]))).trans E6.out
      replace j4 := Lib.hid j4
      clear haf hfb
      have K1 := KQ_77.out.step hM.out
      have x0 := K1.c 0 rfl
      have xz := K1.2.2
      clear K1
      rw [HLIT.out]
      go_simp
      exact hK.out _ _ (RS.next (wv := wv) (vs := vs) 8 (x := .agg #[.slice qa L1.length qc]) (by rw [HLIT.out]; simp only [upv, e6, Nat.reduceBEq, cond_true, cond_false]) (by rw [HG.out]; exact j4.out) hM.out (by rw [HG.out]; exact fun _ _ h => h) (by rw [HG.out]; exact E8.out.symm))
    · intro bf ac wv hfb haf hJ K' hK
      obtain ⟨vs, rfl, hM, j4⟩ := hJ
      replace hK := Lib.hid hK
      replace hM := Lib.hid hM
      rw [HG.out] at j4
      simp [Region.binds] at haf
      have e6 := ((j4 6 (by simp [haf]))).trans E6.out
      have e7 := ((j4 7 (by simp [haf]))).trans E7.out
      have e8 := ((j4 8 (by simp [haf]))).trans E8.out
      replace j4 := Lib.hid j4
      clear haf hfb
      rw [HLIT.out]
      go_simp
      go_at_call 15
      refine (same_any _ _ L1 L1 _ (HP.out.step hM.out).1 (HQ.out.step hM.out)).mono ?_
      rintro e w4 ⟨rfl, b4⟩
      rw [decide_eq_true (rfl : L1 = L1)]
      exact hK.out _ _ (RS.next (wv := wv) (vs := vs) 9 (x := .bool true) (by rw [HLIT.out]; simp only [upv, e6, e7, e8, Nat.reduceBEq, cond_true, cond_false]) (by rw [HG.out]; exact j4.out) (keep2 b4 hM.out) (by rw [HG.out]; exact fun _ _ h => h) (by rw [HG.out]; exact E9.out.symm))
    · intro bf ac wv hfb haf hJ K' hK
      obtain ⟨vs, rfl, hM, j4⟩ := hJ
      replace hK := Lib.hid hK
      replace hM := Lib.hid hM
      rw [HG.out] at j4
      simp [Region.binds] at haf
      have e6 := ((j4 6 (by simp [haf]))).trans E6.out
      have e9 := ((j4 9 (by simp [haf]))).trans E9.out
      replace j4 := Lib.hid j4
      clear haf hfb
      rw [HLIT.out]
      go_simp
      exact hK.out _ _ (RS.next (wv := wv) (vs := vs) 10 (x := .bool true) (by rw [HLIT.out]; simp only [upv, e6, e9, Nat.reduceBEq, cond_true, cond_false]) (by rw [HG.out]; exact j4.out) hM.out (by rw [HG.out]; exact fun _ _ h => h) (by rw [HG.out]; exact E10.out.symm))
    · intro bf ac wv hfb haf hJ K' hK
      obtain ⟨vs, rfl, hM, j4⟩ := hJ
      replace hK := Lib.hid hK
      replace hM := Lib.hid hM
      rw [HG.out] at j4
      simp [Region.binds] at haf
      have e10 := ((j4 10 (by simp [haf]))).trans E10.out
      replace j4 := Lib.hid j4
      clear haf hfb
      rw [HLIT.out]
      go_simp
      exact hK.out _ _ (RS.next (wv := wv) (vs := vs) 11 (x := .bool true) (by rw [HLIT.out]; simp only [upv, e10, Nat.reduceBEq, cond_true, cond_false]) (by rw [HG.out]; exact j4.out) hM.out (by rw [HG.out]; exact fun _ _ h => h) (by rw [HG.out]; exact E11.out.symm))
    · intro bf ac wv hfb haf hJ K' hK
      obtain ⟨vs, rfl, hM, j4⟩ := hJ
      replace hK := Lib.hid hK
      replace hM := Lib.hid hM
      rw [HG.out] at j4
      simp [Region.binds] at haf
      have e11 := ((j4 11 (by simp [haf]))).trans E11.out
      replace j4 := Lib.hid j4
      clear haf hfb
      rw [HLIT.out]
      go_simp
      exact hK.out _ _ (RS.next (wv := wv) (vs := vs) 12 (x := .int .i64 R2) (by rw [HLIT.out]; simp only [upv, e11, Nat.reduceBEq, cond_true, cond_false]) (by rw [HG.out]; exact j4.out) hM.out (by rw [HG.out]; exact fun _ _ h => h) (by rw [HG.out]; exact E12.out.symm))
    · intro bf ac wv hfb haf hJ K' hK
      obtain ⟨vs, rfl, hM, j4⟩ := hJ
      replace hK := Lib.hid hK
      replace hM := Lib.hid hM
      rw [HG.out] at j4
      simp [Region.binds] at haf
      have e11 := ((j4 11 (by simp [haf]))).trans E11.out
      replace j4 := Lib.hid j4
      clear haf hfb
      rw [HLIT.out]
      go_simp
      exact hK.out _ _ (RS.next (wv := wv) (vs := vs) 13 (x := .int .i64 R2) (by rw [HLIT.out]; simp only [upv, e11, Nat.reduceBEq, cond_true, cond_false]) (by rw [HG.out]; exact j4.out) hM.out (by rw [HG.out]; exact fun _ _ h => h) (by rw [HG.out]; exact E13.out.symm))
    · intro bf ac wv hfb haf hJ K' hK
      obtain ⟨vs, rfl, hM, j4⟩ := hJ
      replace hK := Lib.hid hK
      replace hM := Lib.hid hM
      rw [HG.out] at j4
      simp [Region.binds] at haf
      have e11 := ((j4 11 (by simp [haf]))).trans E11.out
      have e12 := ((j4 12 (by simp [haf]))).trans E12.out
      have e13 := ((j4 13 (by simp [haf]))).trans E13.out
      replace j4 := Lib.hid j4
      clear haf hfb
      rw [HLIT.out]
      go_simp
      exact hK.out _ _ (RS.next (wv := wv) (vs := vs) 14 (x := .bool true) (by rw [HLIT.out]; simp only [upv, e11, e12, e13, Nat.reduceBEq, cond_true, cond_false]) (by rw [HG.out]; exact j4.out) hM.out (by rw [HG.out]; exact fun _ _ h => h) (by rw [HG.out]; exact E14.out.symm))
    · intro bf ac wv hfb haf hJ K' hK
      obtain ⟨vs, rfl, hM, j4⟩ := hJ
      replace hK := Lib.hid hK
      replace hM := Lib.hid hM
      rw [HG.out] at j4
      simp [Region.binds] at haf
      have e11 := ((j4 11 (by simp [haf]))).trans E11.out
      have e14 := ((j4 14 (by simp [haf]))).trans E14.out
      replace j4 := Lib.hid j4
      clear haf hfb
      rw [HLIT.out]
      go_simp
      exact hK.out _ _ (RS.next (wv := wv) (vs := vs) 15 (x := .bool true) (by rw [HLIT.out]; simp only [upv, e11, e14, Nat.reduceBEq, cond_true, cond_false]) (by rw [HG.out]; exact j4.out) hM.out (by rw [HG.out]; exact fun _ _ h => h) (by rw [HG.out]; exact E15.out.symm))
    · intro bf ac wv hfb haf hJ K' hK
      obtain ⟨vs, rfl, hM, j4⟩ := hJ
      replace hK := Lib.hid hK
      replace hM := Lib.hid hM
      rw [HG.out] at j4
      simp [Region.binds] at haf
      have e15 := ((j4 15 (by simp [haf]))).trans E15.out
      replace j4 := Lib.hid j4
      clear haf hfb
      rw [HLIT.out]
      go_simp
      exact hK.out _ _ (RS.next (wv := wv) (vs := vs) 16 (x := .bool true) (by rw [HLIT.out]; simp only [upv, e15, Nat.reduceBEq, cond_true, cond_false]) (by rw [HG.out]; exact j4.out) hM.out (by rw [HG.out]; exact fun _ _ h => h) (by rw [HG.out]; exact E16.out.symm))
    · intro bf ac wv hfb haf hJ K' hK
      obtain ⟨vs, rfl, hM, j4⟩ := hJ
      replace hK := Lib.hid hK
      replace hM := Lib.hid hM
      rw [HG.out] at j4
      simp [Region.binds] at haf
      have e16 := ((j4 16 (by simp [haf]))).trans E16.out
      replace j4 := Lib.hid j4
      clear haf hfb
      have K1 := KM_78.out.step hM.out
      have x0 := K1.c 0 rfl
      have xz := K1.2.2
      clear K1
      rw [HLIT.out]
      go_simp
      exact hK.out _ _ (RS.next (wv := wv) (vs := vs) 17 (x := .agg #[.slice ma L2.length mc]) (by rw [HLIT.out]; simp only [upv, e16, Nat.reduceBEq, cond_true, cond_false]) (by rw [HG.out]; exact j4.out) hM.out (by rw [HG.out]; exact fun _ _ h => h) (by rw [HG.out]; exact E17.out.symm))
    · intro bf ac wv hfb haf hJ K' hK
      obtain ⟨vs, rfl, hM, j4⟩ := hJ
      replace hK := Lib.hid hK
      replace hM := Lib.hid hM
      rw [HG.out] at j4
      simp [Region.binds] at haf
      have e16 := ((j4 16 (by simp [haf]))).trans E16.out
      replace j4 := Lib.hid j4
      clear haf hfb
      have K1 := KN_79.out.step hM.out
      have x0 := K1.c 0 rfl
      have xz := K1.2.2
      clear K1
      rw [HLIT.out]
      go_simp
      exact hK.out _ _ (RS.next (wv := wv) (vs := vs) 18 (x := .agg #[.slice na L2.length nc]) (by rw [HLIT.out]; simp only [upv, e16, Nat.reduceBEq, cond_true, cond_false]) (by rw [HG.out]; exact j4.out) hM.out (by rw [HG.out]; exact fun _ _ h => h) (by rw [HG.out]; exact E18.out.symm))
    · intro bf ac wv hfb haf hJ K' hK
      obtain ⟨vs, rfl, hM, j4⟩ := hJ
      replace hK := Lib.hid hK
      replace hM := Lib.hid hM
      rw [HG.out] at j4
      simp [Region.binds] at haf
      have e16 := ((j4 16 (by simp [haf]))).trans E16.out
      have e17 := ((j4 17 (by simp [haf]))).trans E17.out
      have e18 := ((j4 18 (by simp [haf]))).trans E18.out
      replace j4 := Lib.hid j4
      clear haf hfb
      rw [HLIT.out]
      go_simp
      go_at_call 15
      refine (same_any _ _ L2 L2 _ (HM.out.step hM.out).1 (HN.out.step hM.out)).mono ?_
      rintro e w4 ⟨rfl, b4⟩
      rw [decide_eq_true (rfl : L2 = L2)]
      exact hK.out _ _ (RS.next (wv := wv) (vs := vs) 19 (x := .bool true) (by rw [HLIT.out]; simp only [upv, e16, e17, e18, Nat.reduceBEq, cond_true, cond_false]) (by rw [HG.out]; exact j4.out) (keep2 b4 hM.out) (by rw [HG.out]; exact fun _ _ h => h) (by rw [HG.out]; exact E19.out.symm))
    · intro bf ac wv hfb haf hJ K' hK
      obtain ⟨vs, rfl, hM, j4⟩ := hJ
      replace hK := Lib.hid hK
      replace hM := Lib.hid hM
      rw [HG.out] at j4
      simp [Region.binds] at haf
      have e16 := ((j4 16 (by simp [haf]))).trans E16.out
      have e19 := ((j4 19 (by simp [haf]))).trans E19.out
      replace j4 := Lib.hid j4
      clear haf hfb
      rw [HLIT.out]
      go_simp
      exact hK.out _ _ (RS.next (wv := wv) (vs := vs) 20 (x := .bool true) (by rw [HLIT.out]; simp only [upv, e16, e19, Nat.reduceBEq, cond_true, cond_false]) (by rw [HG.out]; exact j4.out) hM.out (by rw [HG.out]; exact fun _ _ h => h) (by rw [HG.out]; exact E20.out.symm))
    · intro bf ac wv hfb haf hJ K' hK
      obtain ⟨vs, rfl, hM, j4⟩ := hJ
      replace hK := Lib.hid hK
      replace hM := Lib.hid hM
      rw [HG.out] at j4
      simp [Region.binds] at haf
      have e20 := ((j4 20 (by simp [haf]))).trans E20.out
      replace j4 := Lib.hid j4
      clear haf hfb
      rw [HLIT.out]
      go_simp
      exact hK.out _ _ (RS.next (wv := wv) (vs := vs) 21 (x := .bool true) (by rw [HLIT.out]; simp only [upv, e20, Nat.reduceBEq, cond_true, cond_false]) (by rw [HG.out]; exact j4.out) hM.out (by rw [HG.out]; exact fun _ _ h => h) (by rw [HG.out]; exact E21.out.symm))
    · intro bf ac wv hfb haf hJ K' hK
      obtain ⟨vs, rfl, hM, j4⟩ := hJ
      replace hK := Lib.hid hK
      replace hM := Lib.hid hM
      rw [HG.out] at j4
      simp [Region.binds] at haf
      have e21 := ((j4 21 (by simp [haf]))).trans E21.out
      replace j4 := Lib.hid j4
      clear haf hfb
      have K1 := KA_72.out.step hM.out
      have x0 := K1.c 0 rfl
      have xz := K1.2.2
      clear K1
      rw [HLIT.out]
      go_simp
      exact hK.out _ _ (RS.next (wv := wv) (vs := vs) 22 (x := .agg #[.slice aa m.length ac]) (by rw [HLIT.out]; simp only [upv, e21, Nat.reduceBEq, cond_true, cond_false]) (by rw [HG.out]; exact j4.out) hM.out (by rw [HG.out]; exact fun _ _ h => h) (by rw [HG.out]; exact E22.out.symm))
    · intro bf ac wv hfb haf hJ K' hK
      obtain ⟨vs, rfl, hM, j4⟩ := hJ
      replace hK := Lib.hid hK
      replace hM := Lib.hid hM
      rw [HG.out] at j4
      simp [Region.binds] at haf
      have e21 := ((j4 21 (by simp [haf]))).trans E21.out
      replace j4 := Lib.hid j4
      clear haf hfb
      rw [HLIT.out]
      go_simp
      exact hK.out _ _ (RS.next (wv := wv) (vs := vs) 23 (x := .int .i64 tg) (by rw [HLIT.out]; simp only [upv, e21, Nat.reduceBEq, cond_true, cond_false]) (by rw [HG.out]; exact j4.out) hM.out (by rw [HG.out]; exact fun _ _ h => h) (by rw [HG.out]; exact E23.out.symm))
    · intro bf ac wv hfb haf hJ K' hK
      obtain ⟨vs, rfl, hM, j4⟩ := hJ
      replace hK := Lib.hid hK
      replace hM := Lib.hid hM
      rw [HG.out] at j4
      simp [Region.binds] at haf
      have e21 := ((j4 21 (by simp [haf]))).trans E21.out
      have e22 := ((j4 22 (by simp [haf]))).trans E22.out
      have e23 := ((j4 23 (by simp [haf]))).trans E23.out
      replace j4 := Lib.hid j4
      clear haf hfb
      rw [HLIT.out]
      go_simp
      go_at_call 16
      refine (has2_any _ m tg _ ((HA.out.step HB80.out).step hM.out).1 HTGB.out).mono ?_
      rintro e w4 ⟨rfl, b4⟩
      rw [hbb.out]
      exact hK.out _ _ (RS.next (wv := wv) (vs := vs) 24 (x := .bool bb) (by rw [HLIT.out]; simp only [upv, e21, e22, e23, Nat.reduceBEq, cond_true, cond_false]) (by rw [HG.out]; exact j4.out) (keep2 b4 hM.out) (by rw [HG.out]; exact fun _ _ h => h) (by rw [HG.out]; exact E24.out.symm))
    · intro bf ac wv hfb haf hJ K' hK
      obtain ⟨vs, rfl, hM, j4⟩ := hJ
      replace hK := Lib.hid hK
      replace hM := Lib.hid hM
      rw [HG.out] at j4
      simp [Region.binds] at haf
      have e21 := ((j4 21 (by simp [haf]))).trans E21.out
      replace j4 := Lib.hid j4
      clear haf hfb
      have K1 := KA_72.out.step hM.out
      have x0 := K1.c 0 rfl
      have xz := K1.2.2
      clear K1
      rw [HLIT.out]
      go_simp
      exact hK.out _ _ (RS.next (wv := wv) (vs := vs) 25 (x := .agg #[.slice aa m.length ac]) (by rw [HLIT.out]; simp only [upv, e21, Nat.reduceBEq, cond_true, cond_false]) (by rw [HG.out]; exact j4.out) hM.out (by rw [HG.out]; exact fun _ _ h => h) (by rw [HG.out]; exact E25.out.symm))
    · intro bf ac wv hfb haf hJ K' hK
      obtain ⟨vs, rfl, hM, j4⟩ := hJ
      replace hK := Lib.hid hK
      replace hM := Lib.hid hM
      rw [HG.out] at j4
      simp [Region.binds] at haf
      have e21 := ((j4 21 (by simp [haf]))).trans E21.out
      replace j4 := Lib.hid j4
      clear haf hfb
      rw [HLIT.out]
      go_simp
      exact hK.out _ _ (RS.next (wv := wv) (vs := vs) 26 (x := .int .i64 tg) (by rw [HLIT.out]; simp only [upv, e21, Nat.reduceBEq, cond_true, cond_false]) (by rw [HG.out]; exact j4.out) hM.out (by rw [HG.out]; exact fun _ _ h => h) (by rw [HG.out]; exact E26.out.symm))
    · intro bf ac wv hfb haf hJ K' hK
      obtain ⟨vs, rfl, hM, j4⟩ := hJ
      replace hK := Lib.hid hK
      replace hM := Lib.hid hM
      rw [HG.out] at j4
      simp [Region.binds] at haf
      have e21 := ((j4 21 (by simp [haf]))).trans E21.out
      have e25 := ((j4 25 (by simp [haf]))).trans E25.out
      have e26 := ((j4 26 (by simp [haf]))).trans E26.out
      replace j4 := Lib.hid j4
      clear haf hfb
      rw [HLIT.out]
      go_simp
      go_at_call 17
      refine (rhas_any _ m tg _ ((HA.out.step HB80.out).step hM.out).1).mono ?_
      rintro e w4 ⟨rfl, b4⟩
      rw [hbb.out]
      exact hK.out _ _ (RS.next (wv := wv) (vs := vs) 27 (x := .bool bb) (by rw [HLIT.out]; simp only [upv, e21, e25, e26, Nat.reduceBEq, cond_true, cond_false]) (by rw [HG.out]; exact j4.out) (keep2 b4 hM.out) (by rw [HG.out]; exact fun _ _ h => h) (by rw [HG.out]; exact E27.out.symm))
    · intro bf ac wv hfb haf hJ K' hK
      obtain ⟨vs, rfl, hM, j4⟩ := hJ
      replace hK := Lib.hid hK
      replace hM := Lib.hid hM
      rw [HG.out] at j4
      simp [Region.binds] at haf
      have e21 := ((j4 21 (by simp [haf]))).trans E21.out
      have e24 := ((j4 24 (by simp [haf]))).trans E24.out
      have e27 := ((j4 27 (by simp [haf]))).trans E27.out
      replace j4 := Lib.hid j4
      clear haf hfb
      rw [HLIT.out]
      go_simp
      exact hK.out _ _ (RS.next (wv := wv) (vs := vs) 28 (x := .bool true) (by rw [HLIT.out]; simp only [upv, e21, e24, e27, Nat.reduceBEq, cond_true, cond_false]) (by rw [HG.out]; exact j4.out) hM.out (by rw [HG.out]; exact fun _ _ h => h) (by rw [HG.out]; exact E28.out.symm))
    · intro bf ac wv hfb haf hJ K' hK
      obtain ⟨vs, rfl, hM, j4⟩ := hJ
      replace hK := Lib.hid hK
      replace hM := Lib.hid hM
      rw [HG.out] at j4
      simp [Region.binds] at haf
      have e21 := ((j4 21 (by simp [haf]))).trans E21.out
      have e28 := ((j4 28 (by simp [haf]))).trans E28.out
      replace j4 := Lib.hid j4
      clear haf hfb
      rw [HLIT.out]
      go_simp
      exact hK.out _ _ (RS.next (wv := wv) (vs := vs) 29 (x := .bool true) (by rw [HLIT.out]; simp only [upv, e21, e28, Nat.reduceBEq, cond_true, cond_false]) (by rw [HG.out]; exact j4.out) hM.out (by rw [HG.out]; exact fun _ _ h => h) (by rw [HG.out]; exact E29.out.symm))
    · intro bf ac wv hfb haf hJ K' hK
      obtain ⟨vs, rfl, hM, j4⟩ := hJ
      replace hK := Lib.hid hK
      replace hM := Lib.hid hM
      rw [HG.out] at j4
      simp [Region.binds] at haf
      have e29 := ((j4 29 (by simp [haf]))).trans E29.out
      replace j4 := Lib.hid j4
      clear haf hfb
      rw [HLIT.out]
      go_simp
      exact hK.out _ _ (RS.next (wv := wv) (vs := vs) 30 (x := .bool true) (by rw [HLIT.out]; simp only [upv, e29, Nat.reduceBEq, cond_true, cond_false]) (by rw [HG.out]; exact j4.out) hM.out (by rw [HG.out]; exact fun _ _ h => h) (by rw [HG.out]; exact E30.out.symm))
    · intro bf ac wv hfb haf hJ K' hK
      obtain ⟨vs, rfl, hM, j4⟩ := hJ
      replace hK := Lib.hid hK
      replace hM := Lib.hid hM
      rw [HG.out] at j4
      simp [Region.binds] at haf
      have e30 := ((j4 30 (by simp [haf]))).trans E30.out
      replace j4 := Lib.hid j4
      clear haf hfb
      rw [HLIT.out]
      go_simp
      exact hK.out _ _ (RS.next (wv := wv) (vs := vs) 31 (x := .int .i64 key) (by rw [HLIT.out]; simp only [upv, e30, Nat.reduceBEq, cond_true, cond_false]) (by rw [HG.out]; exact j4.out) hM.out (by rw [HG.out]; exact fun _ _ h => h) (by rw [HG.out]; exact E31.out.symm))
    · intro bf ac wv hfb haf hJ K' hK
      obtain ⟨vs, rfl, hM, j4⟩ := hJ
      replace hK := Lib.hid hK
      replace hM := Lib.hid hM
      rw [HG.out] at j4
      simp [Region.binds] at haf
      have e30 := ((j4 30 (by simp [haf]))).trans E30.out
      replace j4 := Lib.hid j4
      clear haf hfb
      have K1 := KA_72.out.step hM.out
      have x0 := K1.c 0 rfl
      have xz := K1.2.2
      clear K1
      rw [HLIT.out]
      go_simp
      exact hK.out _ _ (RS.next (wv := wv) (vs := vs) 32 (x := .agg #[.slice aa m.length ac]) (by rw [HLIT.out]; simp only [upv, e30, Nat.reduceBEq, cond_true, cond_false]) (by rw [HG.out]; exact j4.out) hM.out (by rw [HG.out]; exact fun _ _ h => h) (by rw [HG.out]; exact E32.out.symm))
    · intro bf ac wv hfb haf hJ K' hK
      obtain ⟨vs, rfl, hM, j4⟩ := hJ
      replace hK := Lib.hid hK
      replace hM := Lib.hid hM
      rw [HG.out] at j4
      simp [Region.binds] at haf
      have e30 := ((j4 30 (by simp [haf]))).trans E30.out
      replace j4 := Lib.hid j4
      clear haf hfb
      have K1 := KC_74.out.step hM.out
      have x0 := K1.c 0 rfl
      have x1 := K1.c 1 rfl
      have x2 := K1.c 2 rfl
      have xz := K1.2.2
      clear K1
      rw [HLIT.out]
      go_simp
      exact hK.out _ _ (RS.next (wv := wv) (vs := vs) 33 (x := .agg #[.int .i64 id, .slice a l.length cap, .int .i64 tag]) (by rw [HLIT.out]; simp only [upv, e30, Nat.reduceBEq, cond_true, cond_false]) (by rw [HG.out]; exact j4.out) hM.out (by rw [HG.out]; exact fun _ _ h => h) (by rw [HG.out]; exact E33.out.symm))
    · intro bf ac wv hfb haf hJ K' hK
      obtain ⟨vs, rfl, hM, j4⟩ := hJ
      replace hK := Lib.hid hK
      replace hM := Lib.hid hM
      rw [HG.out] at j4
      simp [Region.binds] at haf
      have e30 := ((j4 30 (by simp [haf]))).trans E30.out
      replace j4 := Lib.hid j4
      clear haf hfb
      have K1 := KK_75.out.step hM.out
      have x0 := K1.c 0 rfl
      have x1 := K1.c 1 rfl
      have x2 := K1.c 2 rfl
      have x3 := K1.c 3 rfl
      have xz := K1.2.2
      clear K1
      rw [HLIT.out]
      go_simp
      exact hK.out _ _ (RS.next (wv := wv) (vs := vs) 34 (x := .agg #[.int .i64 r, .int .i64 v, .int .i64 x, .int .i64 t]) (by rw [HLIT.out]; simp only [upv, e30, Nat.reduceBEq, cond_true, cond_false]) (by rw [HG.out]; exact j4.out) hM.out (by rw [HG.out]; exact fun _ _ h => h) (by rw [HG.out]; exact E34.out.symm))
    · intro bf ac wv hfb haf hJ K' hK
      obtain ⟨vs, rfl, hM, j4⟩ := hJ
      replace hK := Lib.hid hK
      replace hM := Lib.hid hM
      rw [HG.out] at j4
      simp [Region.binds] at haf
      have e30 := ((j4 30 (by simp [haf]))).trans E30.out
      replace j4 := Lib.hid j4
      clear haf hfb
      rw [HLIT.out]
      go_simp
      exact hK.out _ _ (RS.next (wv := wv) (vs := vs) 35 (x := .int .i64 u) (by rw [HLIT.out]; simp only [upv, e30, Nat.reduceBEq, cond_true, cond_false]) (by rw [HG.out]; exact j4.out) hM.out (by rw [HG.out]; exact fun _ _ h => h) (by rw [HG.out]; exact E35.out.symm))
    · intro bf ac wv hfb haf hJ K' hK
      obtain ⟨vs, rfl, hM, j4⟩ := hJ
      replace hK := Lib.hid hK
      replace hM := Lib.hid hM
      rw [HG.out] at j4
      simp [Region.binds] at haf
      have e30 := ((j4 30 (by simp [haf]))).trans E30.out
      have e31 := ((j4 31 (by simp [haf]))).trans E31.out
      have e32 := ((j4 32 (by simp [haf]))).trans E32.out
      have e33 := ((j4 33 (by simp [haf]))).trans E33.out
      have e34 := ((j4 34 (by simp [haf]))).trans E34.out
      have e35 := ((j4 35 (by simp [haf]))).trans E35.out
      replace j4 := Lib.hid j4
      clear haf hfb
      rw [HLIT.out]
      go_simp
      go_at_call 18
      refine (chk_any key id tag r v x t u _ _ m l _ ((H.out.step HB80.out).step hM.out) ((HA.out.step HB80.out).step hM.out).1).mono ?_
      rintro e w4 ⟨rfl, b4⟩
      rw [hV.out]
      exact hK.out _ _ (RS.next (wv := wv) (vs := vs) 36 (x := .int .i64 V) (by rw [HLIT.out]; simp only [upv, e30, e31, e32, e33, e34, e35, Nat.reduceBEq, cond_true, cond_false]) (by rw [HG.out]; exact j4.out) (keep2 b4 hM.out) (by rw [HG.out]; exact fun _ _ h => h) (by rw [HG.out]; exact E36.out.symm))
    · intro bf ac wv hfb haf hJ K' hK
      obtain ⟨vs, rfl, hM, j4⟩ := hJ
      replace hK := Lib.hid hK
      replace hM := Lib.hid hM
      rw [HG.out] at j4
      simp [Region.binds] at haf
      have e30 := ((j4 30 (by simp [haf]))).trans E30.out
      replace j4 := Lib.hid j4
      clear haf hfb
      rw [HLIT.out]
      go_simp
      exact hK.out _ _ (RS.next (wv := wv) (vs := vs) 37 (x := .int .i64 key) (by rw [HLIT.out]; simp only [upv, e30, Nat.reduceBEq, cond_true, cond_false]) (by rw [HG.out]; exact j4.out) hM.out (by rw [HG.out]; exact fun _ _ h => h) (by rw [HG.out]; exact E37.out.symm))
    · intro bf ac wv hfb haf hJ K' hK
      obtain ⟨vs, rfl, hM, j4⟩ := hJ
      replace hK := Lib.hid hK
      replace hM := Lib.hid hM
      rw [HG.out] at j4
      simp [Region.binds] at haf
      have e30 := ((j4 30 (by simp [haf]))).trans E30.out
      replace j4 := Lib.hid j4
      clear haf hfb
      have K1 := KA_72.out.step hM.out
      have x0 := K1.c 0 rfl
      have xz := K1.2.2
      clear K1
      rw [HLIT.out]
      go_simp
      exact hK.out _ _ (RS.next (wv := wv) (vs := vs) 38 (x := .agg #[.slice aa m.length ac]) (by rw [HLIT.out]; simp only [upv, e30, Nat.reduceBEq, cond_true, cond_false]) (by rw [HG.out]; exact j4.out) hM.out (by rw [HG.out]; exact fun _ _ h => h) (by rw [HG.out]; exact E38.out.symm))
    · intro bf ac wv hfb haf hJ K' hK
      obtain ⟨vs, rfl, hM, j4⟩ := hJ
      replace hK := Lib.hid hK
      replace hM := Lib.hid hM
      rw [HG.out] at j4
      simp [Region.binds] at haf
      have e30 := ((j4 30 (by simp [haf]))).trans E30.out
      replace j4 := Lib.hid j4
      clear haf hfb
      have K1 := KC_74.out.step hM.out
      have x0 := K1.c 0 rfl
      have x1 := K1.c 1 rfl
      have x2 := K1.c 2 rfl
      have xz := K1.2.2
      clear K1
      rw [HLIT.out]
      go_simp
      exact hK.out _ _ (RS.next (wv := wv) (vs := vs) 39 (x := .agg #[.int .i64 id, .slice a l.length cap, .int .i64 tag]) (by rw [HLIT.out]; simp only [upv, e30, Nat.reduceBEq, cond_true, cond_false]) (by rw [HG.out]; exact j4.out) hM.out (by rw [HG.out]; exact fun _ _ h => h) (by rw [HG.out]; exact E39.out.symm))
    · intro bf ac wv hfb haf hJ K' hK
      obtain ⟨vs, rfl, hM, j4⟩ := hJ
      replace hK := Lib.hid hK
      replace hM := Lib.hid hM
      rw [HG.out] at j4
      simp [Region.binds] at haf
      have e30 := ((j4 30 (by simp [haf]))).trans E30.out
      replace j4 := Lib.hid j4
      clear haf hfb
      have K1 := KK_75.out.step hM.out
      have x0 := K1.c 0 rfl
      have x1 := K1.c 1 rfl
      have x2 := K1.c 2 rfl
      have x3 := K1.c 3 rfl
      have xz := K1.2.2
      clear K1
      rw [HLIT.out]
      go_simp
      exact hK.out _ _ (RS.next (wv := wv) (vs := vs) 40 (x := .agg #[.int .i64 r, .int .i64 v, .int .i64 x, .int .i64 t]) (by rw [HLIT.out]; simp only [upv, e30, Nat.reduceBEq, cond_true, cond_false]) (by rw [HG.out]; exact j4.out) hM.out (by rw [HG.out]; exact fun _ _ h => h) (by rw [HG.out]; exact E40.out.symm))
    · intro bf ac wv hfb haf hJ K' hK
      obtain ⟨vs, rfl, hM, j4⟩ := hJ
      replace hK := Lib.hid hK
      replace hM := Lib.hid hM
      rw [HG.out] at j4
      simp [Region.binds] at haf
      have e30 := ((j4 30 (by simp [haf]))).trans E30.out
      replace j4 := Lib.hid j4
      clear haf hfb
      rw [HLIT.out]
      go_simp
      exact hK.out _ _ (RS.next (wv := wv) (vs := vs) 41 (x := .int .i64 u) (by rw [HLIT.out]; simp only [upv, e30, Nat.reduceBEq, cond_true, cond_false]) (by rw [HG.out]; exact j4.out) hM.out (by rw [HG.out]; exact fun _ _ h => h) (by rw [HG.out]; exact E41.out.symm))
    · intro bf ac wv hfb haf hJ K' hK
      obtain ⟨vs, rfl, hM, j4⟩ := hJ
      replace hK := Lib.hid hK
      replace hM := Lib.hid hM
      rw [HG.out] at j4
      simp [Region.binds] at haf
      have e30 := ((j4 30 (by simp [haf]))).trans E30.out
      have e37 := ((j4 37 (by simp [haf]))).trans E37.out
      have e38 := ((j4 38 (by simp [haf]))).trans E38.out
      have e39 := ((j4 39 (by simp [haf]))).trans E39.out
      have e40 := ((j4 40 (by simp [haf]))).trans E40.out
      have e41 := ((j4 41 (by simp [haf]))).trans E41.out
      replace j4 := Lib.hid j4
      clear haf hfb
      rw [HLIT.out]
      go_simp
      go_at_call 19
      refine (rchk_any key id tag r v x t u _ _ m l _ ((H.out.step HB80.out).step hM.out) ((HA.out.step HB80.out).step hM.out).1).mono ?_
      rintro e w4 ⟨rfl, b4⟩
      rw [hV.out]
      exact hK.out _ _ (RS.next (wv := wv) (vs := vs) 42 (x := .int .i64 V) (by rw [HLIT.out]; simp only [upv, e30, e37, e38, e39, e40, e41, Nat.reduceBEq, cond_true, cond_false]) (by rw [HG.out]; exact j4.out) (keep2 b4 hM.out) (by rw [HG.out]; exact fun _ _ h => h) (by rw [HG.out]; exact E42.out.symm))
    · intro bf ac wv hfb haf hJ K' hK
      obtain ⟨vs, rfl, hM, j4⟩ := hJ
      replace hK := Lib.hid hK
      replace hM := Lib.hid hM
      rw [HG.out] at j4
      simp [Region.binds] at haf
      have e30 := ((j4 30 (by simp [haf]))).trans E30.out
      have e36 := ((j4 36 (by simp [haf]))).trans E36.out
      have e42 := ((j4 42 (by simp [haf]))).trans E42.out
      replace j4 := Lib.hid j4
      clear haf hfb
      rw [HLIT.out]
      go_simp
      exact hK.out _ _ (RS.next (wv := wv) (vs := vs) 43 (x := .bool true) (by rw [HLIT.out]; simp only [upv, e30, e36, e42, Nat.reduceBEq, cond_true, cond_false]) (by rw [HG.out]; exact j4.out) hM.out (by rw [HG.out]; exact fun _ _ h => h) (by rw [HG.out]; exact E43.out.symm))
    · intro bf ac wv hfb haf hJ K' hK
      obtain ⟨vs, rfl, hM, j4⟩ := hJ
      replace hK := Lib.hid hK
      replace hM := Lib.hid hM
      rw [HG.out] at j4
      simp [Region.binds] at haf
      have e30 := ((j4 30 (by simp [haf]))).trans E30.out
      have e43 := ((j4 43 (by simp [haf]))).trans E43.out
      replace j4 := Lib.hid j4
      clear haf hfb
      rw [HLIT.out]
      go_simp
      exact hK.out _ _ (RS.next (wv := wv) (vs := vs) 44 (x := .bool true) (by rw [HLIT.out]; simp only [upv, e30, e43, Nat.reduceBEq, cond_true, cond_false]) (by rw [HG.out]; exact j4.out) hM.out (by rw [HG.out]; exact fun _ _ h => h) (by rw [HG.out]; exact E44.out.symm))
    · intro bf ac wv hfb haf hJ K' hK
      obtain ⟨vs, rfl, hM, j4⟩ := hJ
      replace hK := Lib.hid hK
      replace hM := Lib.hid hM
      rw [HG.out] at j4
      simp [Region.binds] at haf
      have e44 := ((j4 44 (by simp [haf]))).trans E44.out
      replace j4 := Lib.hid j4
      clear haf hfb
      rw [HLIT.out]
      go_simp
      exact hK.out _ _ (RS.next (wv := wv) (vs := vs) 45 (x := .bool true) (by rw [HLIT.out]; simp only [upv, e44, Nat.reduceBEq, cond_true, cond_false]) (by rw [HG.out]; exact j4.out) hM.out (by rw [HG.out]; exact fun _ _ h => h) (by rw [HG.out]; exact E45.out.symm))
  · intro bf ac wv hall hJ
    obtain ⟨vs, rfl, hM, j4⟩ := hJ
    rw [HG.out] at j4
    have ez := ((j4 45 (hall 45 (by decide)))).trans E45.out
    have HB9 := Lib.hid (keep2 hM HB80.out)
    clear hall j4 hM
    rw [HLIT.out]
    dsimp only
    rw [ez]
    clear ez
    go_wp2
    go_ret
    exact ⟨rfl, HB9.out⟩
theorem match_any (va : Value) (m : List Int) (vb : Value) (n : List Int) (tg key id tag : Int) (sl : Value) (l : List Cv) (r v x t u : Int) (w : World) (ha : TgAt w va m) (hb : TgAt w vb n) (hg : -9223372036854775808 ≤ tg ∧ tg ≤ 9223372036854775807) (h : CvsAt w sl l) : Calls Try.prog 3 #[.agg #[va], .agg #[vb], .int .i64 tg, .int .i64 key, .agg #[.int .i64 id, sl, .int .i64 tag], .agg #[.int .i64 r, .int .i64 v, .int .i64 x, .int .i64 t], .int .i64 u] w fun e w' => e = .returned (.bool true) ∧ Below w.heap.size w w' := by
  cases hf : ([(0, m.length), (0, n.length)] : List (Nat × Nat)).all (fun q => fwB q.2)
  · exact match_few va m vb n tg key id tag sl l r v x t u w ha hb hg h hf
  · by_cases h3 : l.length ≤ 20
    · exact match_ok va m vb n tg key id tag sl l r v x t u w ha hb hg h hf h3
    · exact match_len va m vb n tg key id tag sl l r v x t u w ha hb hg h hf (by omega)
end Go.Proofs.Ytpoldplmaomkaaa
