/- Guests: law TopGuests, the walk. -/
import Derived.Test.YtoaleijfpocdjaaTg
namespace Go.Proofs.Ytoaleijfpocdjaa
open Go.RowKit

/-- A region that only makes memory; its last operation writes a slot that its first one reads. -/
def RO (lit : (Nat → Value) → Act) (W : World) (G : Nat → Value → World → Prop) (bf : Nat → Bool) (ac : Act) (wv : World) : Prop :=
  ∃ vs, ac = lit vs ∧ (bf 13 = false → vs 13 = .bool true) ∧ (bf 13 = true → bf 0 = true) ∧ Below W.heap.size W wv ∧ ∀ i, bf i = true → G i (vs i) wv
theorem RO.next {lit : (Nat → Value) → Act} {W : World} {G : Nat → Value → World → Prop} {bf : Nat → Bool} {wv : World} {vs : Nat → Value} (i : Nat) (hi : i < 13) {x : Value} {w' : World} {ac' : Act} (hac : ac' = lit (upv vs i x))
    (k5 : bf 13 = false → vs 13 = .bool true) (k6 : bf 13 = true → bf 0 = true) (k : ∀ i, bf i = true → G i (vs i) wv) (hb : Below W.heap.size W w') (hs : ∀ k v, G k v wv → G k v w') (hx : G i x w') : RO lit W G (up bf i) ac' w' := by
  refine ⟨upv vs i x, hac, fun h => ?_, fun h => ?_, hb, fun j hu => ?_⟩
  · rw [up_ne _ _ _ (by omega)] at h; rw [upv_ne _ _ _ _ (by omega)]; exact k5 h
  · rw [up_ne _ _ _ (by omega)] at h; unfold up; rw [k6 h]; simp
  · by_cases e : j = i
    · subst e; rw [upv_same]; exact hx
    · rw [up_ne _ _ _ e] at hu; rw [upv_ne _ _ _ _ e]; exact hs _ _ (k j hu)
theorem RO.last {lit : (Nat → Value) → Act} {W : World} {G : Nat → Value → World → Prop} {bf : Nat → Bool} {wv : World} {vs : Nat → Value} {x : Value} {w' : World} {ac' : Act} (hac : ac' = lit (upv vs 13 x))
    (h0 : bf 0 = true) (k : ∀ i, bf i = true → G i (vs i) wv) (hb : Below W.heap.size W w') (hs : ∀ k v, G k v wv → G k v w') (hx : G 13 x w') : RO lit W G (up bf 13) ac' w' := by
  refine ⟨upv vs 13 x, hac, fun h => ?_, fun h => ?_, hb, fun j hu => ?_⟩
  · rw [up_same] at h; cases h
  · unfold up; rw [h0]; simp
  · by_cases e : j = 13
    · subst e; rw [upv_same]; exact hx
    · rw [up_ne _ _ _ e] at hu; rw [upv_ne _ _ _ _ e]; exact hs _ _ (k j hu)
theorem ch_len {key id tag : Int} {l : List Cv} (h : gnB key id tag l = true) : (chB key id tag l).length = l.length + 1 := by
  unfold chB; rw [if_pos h, chL_len]
theorem ints_form {w : World} {v : Value} {l L : List Int} (h : IntsAt w v l) (e : l = L) : ∃ a c, v = .slice a L.length c ∧ IntsAt w (.slice a L.length c) L := by
  subst e
  obtain ⟨a, c, rfl, h1, h2⟩ := h
  exact ⟨a, c, rfl, _, _, rfl, h1, h2⟩
theorem tg_form {w : World} {v : Value} {l : List Int} (h : TgAt w v l) : ∃ a c, v = .slice a l.length c ∧ TgAt w (.slice a l.length c) l := by
  obtain ⟨⟨a, c, rfl, h1, h2⟩, h3⟩ := h
  exact ⟨a, c, rfl, ⟨_, _, rfl, h1, h2⟩, h3⟩
theorem any_take {f : Int → Bool} {c : List Int} {k : Nat} (h : k < c.length) : (c.take (k + 1)).any f = ((c.take k).any f || f (c.getD k 0)) := by
  rw [List.take_succ_eq_append_getElem h, List.any_append]; simp [h]
theorem all_take {f : Cv → Bool} {c : List Cv} {k : Nat} (h : k < c.length) : (c.take (k + 1)).all f = ((c.take k).all f && f (c.getD k zC)) := by
  rw [List.take_succ_eq_append_getElem h, List.all_append]; simp [h]
theorem cv_part {w : World} {b off cap k : Nat} {l : List Cv} (h : CvsAt w (.slice (some ⟨b, off, none⟩) l.length cap) l) (hk : k < l.length) : CvsAt w (.slice (some ⟨b, off + k * 2, none⟩) 1 (cap - k)) [l.getD k zC] := by
  obtain ⟨a, c, hv, h1, h2, h3⟩ := h
  cases hv
  obtain ⟨b2, o2, hb, hx⟩ := h3 (by intro e; rw [e] at hk; simp at hk)
  cases hb
  refine ⟨_, _, rfl, (show 1 ≤ cap - k by omega), by unfold maxLen; simp, fun _ => ⟨_, _, rfl, fun i x hi => ?_⟩⟩
  rcases i with _ | i
  · cases hi
    have := hx k _ (cv_get hk)
    simpa using this
  · cases hi
set_option maxRecDepth 100000 in
set_option maxHeartbeats 8000000 in
theorem top_a (key id : Int) (vl : Value) (l : List Cv) (ck cz r v x t u : Int) (v1 : Value) (one : List Int) (v2 : Value) (two : List Int) (w : World) (h : CvsAt w vl l) (h1 : TgAt w v1 one) (h2 : TgAt w v2 two) (l1 : 11 < l.length) : Calls Try.prog 3 #[.int .i64 key, .int .i64 id, vl, .agg #[.int .i64 ck, .int .i64 cz], .agg #[.int .i64 r, .int .i64 v, .int .i64 x, .int .i64 t], .int .i64 u, v1, v2] w fun e w' => e = .returned (.bool true) ∧ Below w.heap.size w w' := by
  have H := Lib.hid h
  have H1 := Lib.hid h1
  have H2 := Lib.hid h2
  obtain ⟨a, cap, rfl, hcp, hm, -⟩ := h
  obtain ⟨⟨oa, oc, rfl, hom, -⟩, -⟩ := h1
  obtain ⟨⟨wa, wk, rfl, hwm, -⟩, -⟩ := h2
  unfold maxLen at hm hom hwm
  replace hcp := Lib.hid hcp
  have g1 : decide (((l).length : Int) > 11) = true := by simp; omega
  have g1' : decide ((11 : Int) < ((l).length : Int)) = true := by simp; omega
  have HB0 := Lib.hid (Below.refl w.heap.size w)
  go_enter Try.func3, Try.ntmps3
  have KV_1 := Lib.hid (Cs.new w (w.heap.size) #[.int .i64 ck, .int .i64 cz] 24 (by simp))
  have HB2 : Hid (Below w.heap.size w (w.alloc (.cells #[.int .i64 ck, .int .i64 cz] 24))) := HB0.out.alloc HB0.out.size _
  clear HB0
  have KV_3 := Lib.hid (KV_1.out.alloc (.cells #[.int .i64 r, .int .i64 v, .int .i64 x, .int .i64 t] 26))
  clear KV_1
  have KK_4 := Lib.hid (Cs.new (w.alloc (.cells #[.int .i64 ck, .int .i64 cz] 24)) (w.heap.size + 1) #[.int .i64 r, .int .i64 v, .int .i64 x, .int .i64 t] 26 (by simp))
  have HB5 : Hid (Below w.heap.size w ((w.alloc (.cells #[.int .i64 ck, .int .i64 cz] 24)).alloc (.cells #[.int .i64 r, .int .i64 v, .int .i64 x, .int .i64 t] 26))) := HB2.out.alloc HB2.out.size _
  clear HB2
  go_wp2_with fail
  refine (guest_any _).mono ?_
  rintro e u1 ⟨rfl, b1⟩
  have KV_6 := Lib.hid (KV_3.out.step b1)
  clear KV_3
  have KK_7 := Lib.hid (KK_4.out.step b1)
  clear KK_4
  have HB8 := Lib.hid (keep2 b1 HB5.out)
  clear HB5 b1
  go_wp2
  go_ret
  exact ⟨rfl, HB8.out⟩
set_option maxRecDepth 100000 in
set_option maxHeartbeats 8000000 in
theorem top_b (key id : Int) (vl : Value) (l : List Cv) (ck cz r v x t u : Int) (v1 : Value) (one : List Int) (v2 : Value) (two : List Int) (w : World) (h : CvsAt w vl l) (h1 : TgAt w v1 one) (h2 : TgAt w v2 two) (l1 : l.length ≤ 11) (l2 : 20 < one.length) : Calls Try.prog 3 #[.int .i64 key, .int .i64 id, vl, .agg #[.int .i64 ck, .int .i64 cz], .agg #[.int .i64 r, .int .i64 v, .int .i64 x, .int .i64 t], .int .i64 u, v1, v2] w fun e w' => e = .returned (.bool true) ∧ Below w.heap.size w w' := by
  have H := Lib.hid h
  have H1 := Lib.hid h1
  have H2 := Lib.hid h2
  obtain ⟨a, cap, rfl, hcp, hm, -⟩ := h
  obtain ⟨⟨oa, oc, rfl, hom, -⟩, -⟩ := h1
  obtain ⟨⟨wa, wk, rfl, hwm, -⟩, -⟩ := h2
  unfold maxLen at hm hom hwm
  replace hcp := Lib.hid hcp
  have g1 : decide (((l).length : Int) > 11) = false := by simp; omega
  have g1' : decide ((11 : Int) < ((l).length : Int)) = false := by simp; omega
  have g2 : decide (((one).length : Int) > 20) = true := by simp; omega
  have g2' : decide ((20 : Int) < ((one).length : Int)) = true := by simp; omega
  have HB0 := Lib.hid (Below.refl w.heap.size w)
  go_enter Try.func3, Try.ntmps3
  have KV_1 := Lib.hid (Cs.new w (w.heap.size) #[.int .i64 ck, .int .i64 cz] 24 (by simp))
  have HB2 : Hid (Below w.heap.size w (w.alloc (.cells #[.int .i64 ck, .int .i64 cz] 24))) := HB0.out.alloc HB0.out.size _
  clear HB0
  have KV_3 := Lib.hid (KV_1.out.alloc (.cells #[.int .i64 r, .int .i64 v, .int .i64 x, .int .i64 t] 26))
  clear KV_1
  have KK_4 := Lib.hid (Cs.new (w.alloc (.cells #[.int .i64 ck, .int .i64 cz] 24)) (w.heap.size + 1) #[.int .i64 r, .int .i64 v, .int .i64 x, .int .i64 t] 26 (by simp))
  have HB5 : Hid (Below w.heap.size w ((w.alloc (.cells #[.int .i64 ck, .int .i64 cz] 24)).alloc (.cells #[.int .i64 r, .int .i64 v, .int .i64 x, .int .i64 t] 26))) := HB2.out.alloc HB2.out.size _
  clear HB2
  go_wp2_with fail
  refine (guest_any _).mono ?_
  rintro e u1 ⟨rfl, b1⟩
  have KV_6 := Lib.hid (KV_3.out.step b1)
  clear KV_3
  have KK_7 := Lib.hid (KK_4.out.step b1)
  clear KK_4
  have HB8 := Lib.hid (keep2 b1 HB5.out)
  clear HB5 b1
  go_wp2
  go_ret
  exact ⟨rfl, HB8.out⟩
set_option maxRecDepth 100000 in
set_option maxHeartbeats 8000000 in
theorem top_c (key id : Int) (vl : Value) (l : List Cv) (ck cz r v x t u : Int) (v1 : Value) (one : List Int) (v2 : Value) (two : List Int) (w : World) (h : CvsAt w vl l) (h1 : TgAt w v1 one) (h2 : TgAt w v2 two) (l1 : l.length ≤ 11) (l2 : one.length ≤ 20) (l3 : 20 < two.length) : Calls Try.prog 3 #[.int .i64 key, .int .i64 id, vl, .agg #[.int .i64 ck, .int .i64 cz], .agg #[.int .i64 r, .int .i64 v, .int .i64 x, .int .i64 t], .int .i64 u, v1, v2] w fun e w' => e = .returned (.bool true) ∧ Below w.heap.size w w' := by
  have H := Lib.hid h
  have H1 := Lib.hid h1
  have H2 := Lib.hid h2
  obtain ⟨a, cap, rfl, hcp, hm, -⟩ := h
  obtain ⟨⟨oa, oc, rfl, hom, -⟩, -⟩ := h1
  obtain ⟨⟨wa, wk, rfl, hwm, -⟩, -⟩ := h2
  unfold maxLen at hm hom hwm
  replace hcp := Lib.hid hcp
  have g1 : decide (((l).length : Int) > 11) = false := by simp; omega
  have g1' : decide ((11 : Int) < ((l).length : Int)) = false := by simp; omega
  have g2 : decide (((one).length : Int) > 20) = false := by simp; omega
  have g2' : decide ((20 : Int) < ((one).length : Int)) = false := by simp; omega
  have g3 : decide (((two).length : Int) > 20) = true := by simp; omega
  have g3' : decide ((20 : Int) < ((two).length : Int)) = true := by simp; omega
  have HB0 := Lib.hid (Below.refl w.heap.size w)
  go_enter Try.func3, Try.ntmps3
  have KV_1 := Lib.hid (Cs.new w (w.heap.size) #[.int .i64 ck, .int .i64 cz] 24 (by simp))
  have HB2 : Hid (Below w.heap.size w (w.alloc (.cells #[.int .i64 ck, .int .i64 cz] 24))) := HB0.out.alloc HB0.out.size _
  clear HB0
  have KV_3 := Lib.hid (KV_1.out.alloc (.cells #[.int .i64 r, .int .i64 v, .int .i64 x, .int .i64 t] 26))
  clear KV_1
  have KK_4 := Lib.hid (Cs.new (w.alloc (.cells #[.int .i64 ck, .int .i64 cz] 24)) (w.heap.size + 1) #[.int .i64 r, .int .i64 v, .int .i64 x, .int .i64 t] 26 (by simp))
  have HB5 : Hid (Below w.heap.size w ((w.alloc (.cells #[.int .i64 ck, .int .i64 cz] 24)).alloc (.cells #[.int .i64 r, .int .i64 v, .int .i64 x, .int .i64 t] 26))) := HB2.out.alloc HB2.out.size _
  clear HB2
  go_wp2_with fail
  refine (guest_any _).mono ?_
  rintro e u1 ⟨rfl, b1⟩
  have KV_6 := Lib.hid (KV_3.out.step b1)
  clear KV_3
  have KK_7 := Lib.hid (KK_4.out.step b1)
  clear KK_4
  have HB8 := Lib.hid (keep2 b1 HB5.out)
  clear HB5 b1
  go_wp2
  go_ret
  exact ⟨rfl, HB8.out⟩
set_option maxRecDepth 100000 in
set_option maxHeartbeats 8000000 in
theorem top_ok (key id : Int) (vl : Value) (l : List Cv) (ck cz r v x t u : Int) (v1 : Value) (one : List Int) (v2 : Value) (two : List Int) (w : World) (h : CvsAt w vl l) (h1 : TgAt w v1 one) (h2 : TgAt w v2 two) (l1 : l.length ≤ 11) (l2 : one.length ≤ 20) (l3 : two.length ≤ 20) : Calls Try.prog 3 #[.int .i64 key, .int .i64 id, vl, .agg #[.int .i64 ck, .int .i64 cz], .agg #[.int .i64 r, .int .i64 v, .int .i64 x, .int .i64 t], .int .i64 u, v1, v2] w fun e w' => e = .returned (.bool true) ∧ Below w.heap.size w w' := by
  have H := Lib.hid h
  have H1 := Lib.hid h1
  have H2 := Lib.hid h2
  obtain ⟨a, cap, rfl, hcp, hm, -⟩ := h
  obtain ⟨⟨oa, oc, rfl, hom, -⟩, -⟩ := h1
  obtain ⟨⟨wa, wk, rfl, hwm, -⟩, -⟩ := h2
  unfold maxLen at hm hom hwm
  replace hcp := Lib.hid hcp
  have g1 : decide (((l).length : Int) > 11) = false := by simp; omega
  have g1' : decide ((11 : Int) < ((l).length : Int)) = false := by simp; omega
  have g2 : decide (((one).length : Int) > 20) = false := by simp; omega
  have g2' : decide ((20 : Int) < ((one).length : Int)) = false := by simp; omega
  have g3 : decide (((two).length : Int) > 20) = false := by simp; omega
  have g3' : decide ((20 : Int) < ((two).length : Int)) = false := by simp; omega
  have HB0 := Lib.hid (Below.refl w.heap.size w)
  go_enter Try.func3, Try.ntmps3
  have KV_1 := Lib.hid (Cs.new w (w.heap.size) #[.int .i64 ck, .int .i64 cz] 24 (by simp))
  have HB2 : Hid (Below w.heap.size w (w.alloc (.cells #[.int .i64 ck, .int .i64 cz] 24))) := HB0.out.alloc HB0.out.size _
  clear HB0
  have KV_3 := Lib.hid (KV_1.out.alloc (.cells #[.int .i64 r, .int .i64 v, .int .i64 x, .int .i64 t] 26))
  clear KV_1
  have KK_4 := Lib.hid (Cs.new (w.alloc (.cells #[.int .i64 ck, .int .i64 cz] 24)) (w.heap.size + 1) #[.int .i64 r, .int .i64 v, .int .i64 x, .int .i64 t] 26 (by simp))
  have HB5 : Hid (Below w.heap.size w ((w.alloc (.cells #[.int .i64 ck, .int .i64 cz] 24)).alloc (.cells #[.int .i64 r, .int .i64 v, .int .i64 x, .int .i64 t] 26))) := HB2.out.alloc HB2.out.size _
  clear HB2
  go_wp2_with fail
  refine (guest_any _).mono ?_
  rintro e u1 ⟨rfl, b1⟩
  have KV_6 := Lib.hid (KV_3.out.step b1)
  clear KV_3
  have KK_7 := Lib.hid (KK_4.out.step b1)
  clear KK_4
  have HB8 := Lib.hid (keep2 b1 HB5.out)
  clear HB5 b1
  replace l1 := Lib.hid l1
  replace l2 := Lib.hid l2
  replace l3 := Lib.hid l3
  go_wp2_with fail
  refine (minted_any key id _ l _ (H.out.step HB8.out)).mono ?_
  rintro e u20 ⟨bv, vr, rfl, b, rfl, ⟨i1, t1, sl1, m, rfl, hs, hq, -⟩, b20⟩
  have HS := Lib.hid hs
  obtain ⟨sa, sc, rfl, -⟩ := hs
  replace hq := Lib.hid hq
  have KV_9 := Lib.hid (KV_6.out.step b20)
  clear KV_6
  have KK_10 := Lib.hid (KK_7.out.step b20)
  clear KK_7
  have HB11 := Lib.hid (keep2 b20 HB8.out)
  clear HB8 b20
  replace HS := Lib.hid (HS.out.step (al u20 (.cells #[.int .i64 i1, .slice sa m.length sc, .int .i64 t1] 30)))
  have KV_12 := Lib.hid (KV_9.out.alloc (.cells #[.int .i64 i1, .slice sa m.length sc, .int .i64 t1] 30))
  clear KV_9
  have KK_13 := Lib.hid (KK_10.out.alloc (.cells #[.int .i64 i1, .slice sa m.length sc, .int .i64 t1] 30))
  clear KK_10
  have KC_14 := Lib.hid (Cs.new u20 (u20.heap.size) #[.int .i64 i1, .slice sa m.length sc, .int .i64 t1] 30 (by simp))
  have HB15 : Hid (Below w.heap.size w (u20.alloc (.cells #[.int .i64 i1, .slice sa m.length sc, .int .i64 t1] 30))) := HB11.out.alloc HB11.out.size _
  clear HB11
  go_wp2_with fail
  refine (revoked_any _ one _ (H1.out.step HB15.out) l2.out).mono ?_
  rintro e u21 ⟨p0, ux, L1, rfl, ⟨hL, hp0, -⟩, b21⟩
  obtain ⟨L1a, L1c, rfl, hL⟩ := tg_form hL
  have HL1 := Lib.hid hL
  clear hL
  replace hp0 := Lib.hid hp0
  replace HS := Lib.hid (HS.out.step b21)
  have KV_16 := Lib.hid (KV_12.out.step b21)
  clear KV_12
  have KK_17 := Lib.hid (KK_13.out.step b21)
  clear KK_13
  have KC_18 := Lib.hid (KC_14.out.step b21)
  clear KC_14
  have HB19 := Lib.hid (keep2 b21 HB15.out)
  clear HB15 b21
  replace HS := Lib.hid (HS.out.step (al u21 (.cells #[.slice L1a L1.length L1c] 34)))
  replace HL1 := Lib.hid (HL1.out.step (al u21 (.cells #[.slice L1a L1.length L1c] 34)))
  have KV_20 := Lib.hid (KV_16.out.alloc (.cells #[.slice L1a L1.length L1c] 34))
  clear KV_16
  have KK_21 := Lib.hid (KK_17.out.alloc (.cells #[.slice L1a L1.length L1c] 34))
  clear KK_17
  have KC_22 := Lib.hid (KC_18.out.alloc (.cells #[.slice L1a L1.length L1c] 34))
  clear KC_18
  have KX_23 := Lib.hid (Cs.new u21 (u21.heap.size) #[.slice L1a L1.length L1c] 34 (by simp))
  have HB24 : Hid (Below w.heap.size w (u21.alloc (.cells #[.slice L1a L1.length L1c] 34))) := HB19.out.alloc HB19.out.size _
  clear HB19
  go_wp2_with fail
  refine (revoked_any _ two _ (H2.out.step HB24.out) l3.out).mono ?_
  rintro e u22 ⟨p1, ux, L2, rfl, ⟨hL, hp1, -⟩, b22⟩
  obtain ⟨L2a, L2c, rfl, hL⟩ := tg_form hL
  have HL2 := Lib.hid hL
  clear hL
  replace hp1 := Lib.hid hp1
  replace HS := Lib.hid (HS.out.step b22)
  replace HL1 := Lib.hid (HL1.out.step b22)
  have KV_25 := Lib.hid (KV_20.out.step b22)
  clear KV_20
  have KK_26 := Lib.hid (KK_21.out.step b22)
  clear KK_21
  have KC_27 := Lib.hid (KC_22.out.step b22)
  clear KC_22
  have KX_28 := Lib.hid (KX_23.out.step b22)
  clear KX_23
  have HB29 := Lib.hid (keep2 b22 HB24.out)
  clear HB24 b22
  replace HS := Lib.hid (HS.out.step (al u22 (.cells #[.slice L2a L2.length L2c] 34)))
  replace HL1 := Lib.hid (HL1.out.step (al u22 (.cells #[.slice L2a L2.length L2c] 34)))
  replace HL2 := Lib.hid (HL2.out.step (al u22 (.cells #[.slice L2a L2.length L2c] 34)))
  have KV_30 := Lib.hid (KV_25.out.alloc (.cells #[.slice L2a L2.length L2c] 34))
  clear KV_25
  have KK_31 := Lib.hid (KK_26.out.alloc (.cells #[.slice L2a L2.length L2c] 34))
  clear KK_26
  have KC_32 := Lib.hid (KC_27.out.alloc (.cells #[.slice L2a L2.length L2c] 34))
  clear KC_27
  have KX_33 := Lib.hid (KX_28.out.alloc (.cells #[.slice L2a L2.length L2c] 34))
  clear KX_28
  have KY_34 := Lib.hid (Cs.new u22 (u22.heap.size) #[.slice L2a L2.length L2c] 34 (by simp))
  have HB35 : Hid (Below w.heap.size w (u22.alloc (.cells #[.slice L2a L2.length L2c] 34))) := HB29.out.alloc HB29.out.size _
  clear HB29
  cases b
  · go_wp2
    go_ret
    exact ⟨rfl, HB35.out⟩
  · skip
    cases p0
    · go_wp2
      go_ret
      exact ⟨rfl, HB35.out⟩
    · skip
      cases p1
      · go_wp2
        go_ret
        exact ⟨rfl, HB35.out⟩
      · skip
        obtain ⟨hml, hg⟩ := hq.out rfl
        have hml := hml.symm
        subst hml
        have HG1 := Lib.hid hg
        have s1 := hp0.out rfl
        have s2 := hp1.out rfl
        have k1 := l2.out
        have k2 := l3.out
        have k3 := s1.2.1
        have k4 := s2.2.1
        obtain ⟨c1, c2, c3⟩ := mg_fit s1.1 s2.1 (by omega)
        obtain ⟨d1, d2, -⟩ := mg_fit s2.1 s1.1 (by omega)
        rw [mg_comm s2.1 s1.1] at d2
        have RV := Lib.hid (fun c => rv_any (a := one) (b := two) c s1.2.2 s2.2.2)
        obtain ⟨M, hM⟩ : ∃ M, mg L1 L2 = M := ⟨_, rfl⟩
        rw [hM] at c2 c3 d2 RV
        clear hM
        have EA := Lib.hid c1
        have EB := Lib.hid c2
        have SM := Lib.hid c3
        have EC := Lib.hid d1
        have ED := Lib.hid d2
        clear c1 c2 c3 d1 d2 hq hg hp0 hp1 s1 s2 k1 k2 k3 k4
        have xX0 : (u22.alloc (.cells #[.slice L2a L2.length L2c] 34)).cell? ⟨u21.heap.size, 0, none⟩ = some (.slice L1a L1.length L1c) := KX_33.out.c 0 rfl
        have zX : u21.heap.size < (u22.alloc (.cells #[.slice L2a L2.length L2c] 34)).heap.size := KX_33.out.2.2
        have z2X : u21.heap.size < (u22.alloc (.cells #[.slice L2a L2.length L2c] 34)).heap.size + 1 := by omega
        have xY0 : (u22.alloc (.cells #[.slice L2a L2.length L2c] 34)).cell? ⟨u22.heap.size, 0, none⟩ = some (.slice L2a L2.length L2c) := KY_34.out.c 0 rfl
        have zY : u22.heap.size < (u22.alloc (.cells #[.slice L2a L2.length L2c] 34)).heap.size := KY_34.out.2.2
        have z2Y : u22.heap.size < (u22.alloc (.cells #[.slice L2a L2.length L2c] 34)).heap.size + 1 := by omega
        go_wp2_with fail
        refine (merge2_any _ _ L1 L2 _ HL1.out HL2.out).mono ?_
        rintro e u24 ⟨⟨um, rfl, hum⟩, b24⟩
        rw [EA.out]
        obtain ⟨ma, mc, rfl, htm⟩ := row_tg hum EB.out rfl
        have HM := Lib.hid htm
        clear hum htm
        replace HS := Lib.hid (HS.out.step b24)
        replace HL1 := Lib.hid (HL1.out.step b24)
        replace HL2 := Lib.hid (HL2.out.step b24)
        clear xX0 zX z2X xY0 zY z2Y
        have KV_36 := Lib.hid (KV_30.out.step b24)
        clear KV_30
        have KK_37 := Lib.hid (KK_31.out.step b24)
        clear KK_31
        have KC_38 := Lib.hid (KC_32.out.step b24)
        clear KC_32
        have KX_39 := Lib.hid (KX_33.out.step b24)
        clear KX_33
        have KY_40 := Lib.hid (KY_34.out.step b24)
        clear KY_34
        have HB41 := Lib.hid (keep2 b24 HB35.out)
        clear HB35 b24
        replace HS := Lib.hid (HS.out.step (al u24 (.cells #[.slice ma M.length mc] 34)))
        replace HL1 := Lib.hid (HL1.out.step (al u24 (.cells #[.slice ma M.length mc] 34)))
        replace HL2 := Lib.hid (HL2.out.step (al u24 (.cells #[.slice ma M.length mc] 34)))
        replace HM := Lib.hid (HM.out.step (al u24 (.cells #[.slice ma M.length mc] 34)))
        have KV_42 := Lib.hid (KV_36.out.alloc (.cells #[.slice ma M.length mc] 34))
        clear KV_36
        have KK_43 := Lib.hid (KK_37.out.alloc (.cells #[.slice ma M.length mc] 34))
        clear KK_37
        have KC_44 := Lib.hid (KC_38.out.alloc (.cells #[.slice ma M.length mc] 34))
        clear KC_38
        have KX_45 := Lib.hid (KX_39.out.alloc (.cells #[.slice ma M.length mc] 34))
        clear KX_39
        have KY_46 := Lib.hid (KY_40.out.alloc (.cells #[.slice ma M.length mc] 34))
        clear KY_40
        have KM_47 := Lib.hid (Cs.new u24 (u24.heap.size) #[.slice ma M.length mc] 34 (by simp))
        have HB48 : Hid (Below w.heap.size w (u24.alloc (.cells #[.slice ma M.length mc] 34))) := HB41.out.alloc HB41.out.size _
        clear HB41
        have xX0 : (u24.alloc (.cells #[.slice ma M.length mc] 34)).cell? ⟨u21.heap.size, 0, none⟩ = some (.slice L1a L1.length L1c) := KX_45.out.c 0 rfl
        have zX : u21.heap.size < (u24.alloc (.cells #[.slice ma M.length mc] 34)).heap.size := KX_45.out.2.2
        have z2X : u21.heap.size < (u24.alloc (.cells #[.slice ma M.length mc] 34)).heap.size + 1 := by omega
        have xY0 : (u24.alloc (.cells #[.slice ma M.length mc] 34)).cell? ⟨u22.heap.size, 0, none⟩ = some (.slice L2a L2.length L2c) := KY_46.out.c 0 rfl
        have zY : u22.heap.size < (u24.alloc (.cells #[.slice ma M.length mc] 34)).heap.size := KY_46.out.2.2
        have z2Y : u22.heap.size < (u24.alloc (.cells #[.slice ma M.length mc] 34)).heap.size + 1 := by omega
        go_wp2_with fail
        refine (merge2_any _ _ L2 L1 _ HL2.out HL1.out).mono ?_
        rintro e u25 ⟨⟨um, rfl, hum⟩, b25⟩
        rw [EC.out]
        obtain ⟨na, nc, rfl, htm⟩ := row_tg hum ED.out rfl
        have HN := Lib.hid htm
        clear hum htm HL1 HL2
        replace HS := Lib.hid (HS.out.step b25)
        replace HM := Lib.hid (HM.out.step b25)
        clear xX0 zX z2X xY0 zY z2Y
        have KV_49 := Lib.hid (KV_42.out.step b25)
        clear KV_42
        have KK_50 := Lib.hid (KK_43.out.step b25)
        clear KK_43
        have KC_51 := Lib.hid (KC_44.out.step b25)
        clear KC_44
        have KX_52 := Lib.hid (KX_45.out.step b25)
        clear KX_45
        have KY_53 := Lib.hid (KY_46.out.step b25)
        clear KY_46
        have KM_54 := Lib.hid (KM_47.out.step b25)
        clear KM_47
        have HB55 := Lib.hid (keep2 b25 HB48.out)
        clear HB48 b25
        replace HS := Lib.hid (HS.out.step (al u25 (.cells #[.slice na M.length nc] 34)))
        replace HM := Lib.hid (HM.out.step (al u25 (.cells #[.slice na M.length nc] 34)))
        replace HN := Lib.hid (HN.out.step (al u25 (.cells #[.slice na M.length nc] 34)))
        have KV_56 := Lib.hid (KV_49.out.alloc (.cells #[.slice na M.length nc] 34))
        clear KV_49
        have KK_57 := Lib.hid (KK_50.out.alloc (.cells #[.slice na M.length nc] 34))
        clear KK_50
        have KC_58 := Lib.hid (KC_51.out.alloc (.cells #[.slice na M.length nc] 34))
        clear KC_51
        have KX_59 := Lib.hid (KX_52.out.alloc (.cells #[.slice na M.length nc] 34))
        clear KX_52
        have KY_60 := Lib.hid (KY_53.out.alloc (.cells #[.slice na M.length nc] 34))
        clear KY_53
        have KM_61 := Lib.hid (KM_54.out.alloc (.cells #[.slice na M.length nc] 34))
        clear KM_54
        have KN_62 := Lib.hid (Cs.new u25 (u25.heap.size) #[.slice na M.length nc] 34 (by simp))
        have HB63 : Hid (Below w.heap.size w (u25.alloc (.cells #[.slice na M.length nc] 34))) := HB55.out.alloc HB55.out.size _
        clear HB55
        have xM0 : (u25.alloc (.cells #[.slice na M.length nc] 34)).cell? ⟨u24.heap.size, 0, none⟩ = some (.slice ma M.length mc) := KM_61.out.c 0 rfl
        have zM : u24.heap.size < (u25.alloc (.cells #[.slice na M.length nc] 34)).heap.size := KM_61.out.2.2
        have z2M : u24.heap.size < (u25.alloc (.cells #[.slice na M.length nc] 34)).heap.size + 1 := by omega
        have xN0 : (u25.alloc (.cells #[.slice na M.length nc] 34)).cell? ⟨u25.heap.size, 0, none⟩ = some (.slice na M.length nc) := KN_62.out.c 0 rfl
        have zN : u25.heap.size < (u25.alloc (.cells #[.slice na M.length nc] 34)).heap.size := KN_62.out.2.2
        have z2N : u25.heap.size < (u25.alloc (.cells #[.slice na M.length nc] 34)).heap.size + 1 := by omega
        go_wp2_with fail
        refine (same_any _ _ M M _ HM.out.1 HN.out.1).mono ?_
        rintro e u2 ⟨rfl, b2⟩
        replace HS := Lib.hid (HS.out.step b2)
        replace HM := Lib.hid (HM.out.step b2)
        replace HN := Lib.hid (HN.out.step b2)
        clear xM0 zM z2M xN0 zN z2N
        have KV_64 := Lib.hid (KV_56.out.step b2)
        clear KV_56
        have KK_65 := Lib.hid (KK_57.out.step b2)
        clear KK_57
        have KC_66 := Lib.hid (KC_58.out.step b2)
        clear KC_58
        have KX_67 := Lib.hid (KX_59.out.step b2)
        clear KX_59
        have KY_68 := Lib.hid (KY_60.out.step b2)
        clear KY_60
        have KM_69 := Lib.hid (KM_61.out.step b2)
        clear KM_61
        have KN_70 := Lib.hid (KN_62.out.step b2)
        clear KN_62
        have HB71 := Lib.hid (keep2 b2 HB63.out)
        clear HB63 b2
        rw [decide_eq_true (rfl : M = M)]
        clear HN
        clear KX_67
        clear KY_68
        clear KN_70
        have xC0 : u2.cell? ⟨u20.heap.size, 0, none⟩ = some (.int .i64 i1) := KC_66.out.c 0 rfl
        have xC1 : u2.cell? ⟨u20.heap.size, 1, none⟩ = some (.slice sa l.length sc) := KC_66.out.c 1 rfl
        have xC2 : u2.cell? ⟨u20.heap.size, 2, none⟩ = some (.int .i64 t1) := KC_66.out.c 2 rfl
        have zC : u20.heap.size < u2.heap.size := KC_66.out.2.2
        have z2C : u20.heap.size < u2.heap.size + 1 := by omega
        go_wp2_with fail
        refine (chain2_any key i1 t1 _ l _ HS.out).mono ?_
        rintro e u26 ⟨uc, rfl, hu, b26⟩
        obtain ⟨CH, hCH⟩ : ∃ CH, chB key i1 t1 l = CH := ⟨_, rfl⟩
        obtain ⟨ca, cc, rfl, hci⟩ := ints_form hu hCH
        have hcl := ch_len HG1.out
        rw [hCH] at hcl
        have HCI := Lib.hid hci
        clear hci hu
        replace hCH := Lib.hid hCH
        have hcm : CH.length ≤ 2 ^ 63 - 1 := by have := l1.out; omega
        replace hcl := Lib.hid hcl
        replace HS := Lib.hid (HS.out.step b26)
        replace HM := Lib.hid (HM.out.step b26)
        clear xC0 xC1 xC2 zC z2C
        have KV_72 := Lib.hid (KV_64.out.step b26)
        clear KV_64
        have KK_73 := Lib.hid (KK_65.out.step b26)
        clear KK_65
        have KC_74 := Lib.hid (KC_66.out.step b26)
        clear KC_66
        have KM_75 := Lib.hid (KM_69.out.step b26)
        clear KM_69
        have HB76 := Lib.hid (keep2 b26 HB71.out)
        clear HB71 b26
        go_wp2_with fail
        go_loopw [29, 30] (fun rv i wr => ∃ (k : Nat) (rb : Bool), k ≤ CH.length ∧ i = .int .i64 k ∧ rv = .bool rb ∧ Hid (rb = (CH.take k).any (rvB one two)) ∧ Hid (Below u26.heap.size u26 wr)) (fun _ i _ => CH.length - (intOf i).toNat)
        case atStart => exact ⟨0, false, by omega, rfl, rfl, rfl, Below.refl _ _⟩
        case round =>
          obtain ⟨k, rb, hk, rfl, rfl, HRB, HW⟩ := hrel
          by_cases hlt : k < CH.length
          · obtain ⟨a2, cap2, hva, -, hcs⟩ := HCI.out.step HW.out
            obtain ⟨rfl, rfl⟩ : ca = a2 ∧ cc = cap2 := by simpa using hva
            obtain ⟨cb, cf, rfl, hcs2⟩ := hcs (by intro h; rw [h] at hlt; simp at hlt)
            have hx := hcs2 k _ (getD_of hlt)
            clear hcs hcs2 hva
            have htk := any_take (f := rvB one two) hlt
            rw [← HRB.out] at htk
            have HTK := Lib.hid htk
            clear HRB htk
            generalize CH.getD k 0 = y at *
            have HB7 := Lib.hid (keep2 HW.out HB76.out)
            cases rb
            · cases f1 : inB one y
              · have HF1 := Lib.hid f1
                clear f1
                go_wp2_with fail
                refine (in_any _ one y _ (H1.out.step HB7.out).1).mono ?_
                rintro e w' ⟨rfl, rfl⟩
                rw [HF1.out]
                go_wp2_with fail
                refine (in_any _ two y _ (H2.out.step HB7.out).1).mono ?_
                rintro e w' ⟨rfl, rfl⟩
                cases f2 : inB two y
                · have HF2 := Lib.hid f2
                  clear f2
                  go_wp2
                  go_roundw
                  case rel => exact ⟨k + 1, false, by omega, by go_num, rfl, Lib.hid (by rw [HTK.out]; unfold rvB; rw [HF1.out, HF2.out]; rfl), HW⟩
                  case measure => simp [intOf]; omega
                · have HF2 := Lib.hid f2
                  clear f2
                  go_wp2
                  go_roundw
                  case rel => exact ⟨k + 1, true, by omega, by go_num, rfl, Lib.hid (by rw [HTK.out]; unfold rvB; rw [HF1.out, HF2.out]; rfl), HW⟩
                  case measure => simp [intOf]; omega
              · have HF1 := Lib.hid f1
                clear f1
                go_wp2_with fail
                refine (in_any _ one y _ (H1.out.step HB7.out).1).mono ?_
                rintro e w' ⟨rfl, rfl⟩
                rw [HF1.out]
                go_wp2
                go_roundw
                case rel => exact ⟨k + 1, true, by omega, by go_num, rfl, Lib.hid (by rw [HTK.out]; unfold rvB; rw [HF1.out]; rfl), HW⟩
                case measure => simp [intOf]; omega
            · go_wp2
              go_roundw
              case rel => exact ⟨k + 1, true, by omega, by go_num, rfl, Lib.hid (by rw [HTK.out]; rfl), HW⟩
              case measure => simp [intOf]; omega
          · obtain rfl : k = CH.length := by omega
            have HRV := Lib.hid (show rb = CH.any (inB M) by rw [← RV.out CH, HRB.out, List.take_length])
            clear HRB RV
            have RV1000 := Lib.hid (KV_72.out.step HW.out)
            have RK1000 := Lib.hid (KK_73.out.step HW.out)
            have RC1000 := Lib.hid (KC_74.out.step HW.out)
            have RM1000 := Lib.hid (KM_75.out.step HW.out)
            replace HS := Lib.hid (HS.out.step HW.out)
            replace HM := Lib.hid (HM.out.step HW.out)
            replace HCI := Lib.hid (HCI.out.step HW.out)
            have HB1000 := Lib.hid (keep2 HW.out HB76.out)
            clear HB76 HW KV_72 KK_73 KC_74 KM_75
            obtain ⟨wz, hwz⟩ : ∃ wz, wr = wz := ⟨_, rfl⟩
            rw [hwz] at RV1000 RK1000 RC1000 RM1000 HS HM HCI HB1000 ⊢
            clear hwz
            have xK0 : wz.cell? ⟨w.heap.size + 1, 0, none⟩ = some (.int .i64 r) := RK1000.out.c 0 rfl
            have xK1 : wz.cell? ⟨w.heap.size + 1, 1, none⟩ = some (.int .i64 v) := RK1000.out.c 1 rfl
            have xK2 : wz.cell? ⟨w.heap.size + 1, 2, none⟩ = some (.int .i64 x) := RK1000.out.c 2 rfl
            have xK3 : wz.cell? ⟨w.heap.size + 1, 3, none⟩ = some (.int .i64 t) := RK1000.out.c 3 rfl
            have zK : w.heap.size + 1 < wz.heap.size := RK1000.out.2.2
            have z2K : w.heap.size + 1 < wz.heap.size + 1 := by omega
            go_upto_region 19 with fail
            go_cut [31] from 130 to 139 (fun p wc => p = .bool (pm0 r v x t u) ∧ Hid (Below wz.heap.size wz wc))
            case first =>
              have hask := rask_any r v x t wz
              have HASK := Lib.hid hask
              clear hask
              cases f1 : asB r v x t
              · have HF1 := Lib.hid f1
                have HPM := Lib.hid (show pm0 r v x t u = false by unfold pm0; rw [f1]; rfl)
                clear f1
                go_wp2_with fail
                refine HASK.out.mono ?_
                rintro e w5 ⟨rfl, b5⟩
                rw [HF1.out]
                go_wp2
                go_meet
                case rel => exact ⟨by rw [HPM.out], Lib.hid b5⟩
              · have HF1 := Lib.hid f1
                by_cases f2 : 0 ≤ u
                · by_cases f3 : u ≤ 1000000000
                  · have HPM := Lib.hid (show pm0 r v x t u = true by unfold pm0; rw [f1, inr_iff.2 ⟨f2, f3⟩]; rfl)
                    clear f1
                    have q1 : decide (u ≥ 0) = true := decide_eq_true f2
                    have q2 : decide (0 ≤ u) = true := decide_eq_true f2
                    have q3 : decide (u ≤ 1000000000) = true := decide_eq_true f3
                    go_wp2_with fail
                    refine HASK.out.mono ?_
                    rintro e w5 ⟨rfl, b5⟩
                    rw [HF1.out]
                    go_wp2
                    go_meet
                    case rel => exact ⟨by rw [HPM.out], Lib.hid b5⟩
                  · have HPM := Lib.hid (show pm0 r v x t u = false by unfold pm0; rw [inr_no.2 (fun h => f3 h.2)]; simp)
                    clear f1
                    have q1 : decide (u ≥ 0) = true := decide_eq_true f2
                    have q2 : decide (0 ≤ u) = true := decide_eq_true f2
                    have q3 : decide (u ≤ 1000000000) = false := decide_eq_false f3
                    go_wp2_with fail
                    refine HASK.out.mono ?_
                    rintro e w5 ⟨rfl, b5⟩
                    rw [HF1.out]
                    go_wp2
                    go_meet
                    case rel => exact ⟨by rw [HPM.out], Lib.hid b5⟩
                · have HPM := Lib.hid (show pm0 r v x t u = false by unfold pm0; rw [inr_no.2 (fun h => f2 h.1)]; simp)
                  clear f1
                  have q1 : decide (u ≥ 0) = false := decide_eq_false f2
                  have q2 : decide (0 ≤ u) = false := decide_eq_false f2
                  go_wp2_with fail
                  refine HASK.out.mono ?_
                  rintro e w5 ⟨rfl, b5⟩
                  rw [HF1.out]
                  go_wp2
                  go_meet
                  case rel => exact ⟨by rw [HPM.out], Lib.hid b5⟩
            case rest =>
              obtain ⟨rfl, HW⟩ := hcut
              clear xK0 xK1 xK2 xK3 zK z2K
              have RV2000 := Lib.hid (RV1000.out.step HW.out)
              have RK2000 := Lib.hid (RK1000.out.step HW.out)
              have RC2000 := Lib.hid (RC1000.out.step HW.out)
              have RM2000 := Lib.hid (RM1000.out.step HW.out)
              replace HS := Lib.hid (HS.out.step HW.out)
              replace HM := Lib.hid (HM.out.step HW.out)
              replace HCI := Lib.hid (HCI.out.step HW.out)
              have HB2000 := Lib.hid (keep2 HW.out HB1000.out)
              clear HB1000 HW RV1000 RK1000 RC1000 RM1000
              obtain ⟨wy, hwz⟩ : ∃ wz, wc = wz := ⟨_, rfl⟩
              rw [hwz] at RV2000 RK2000 RC2000 RM2000 HS HM HCI HB2000 ⊢
              clear hwz
              obtain ⟨pz, hpz⟩ : ∃ pz, pm0 r v x t u = pz := ⟨_, rfl⟩
              rw [hpz]
              replace hpz := Lib.hid hpz
              go_wp2_with fail
              go_loopw [31, 32] (fun pv i wr => ∃ (k : Nat) (pb : Bool), k ≤ l.length ∧ i = .int .i64 k ∧ pv = .bool pb ∧ Hid (pb = (pz && (l.take k).all (fun c => pmE 0 0 [c] r v x t u == 0))) ∧ Hid (Below wy.heap.size wy wr)) (fun _ i _ => l.length - (intOf i).toNat)
              case atStart => exact ⟨0, pz, by omega, rfl, rfl, Lib.hid (by simp), Below.refl _ _⟩
              case round =>
                obtain ⟨k, pb, hk, rfl, rfl, HPB, HW⟩ := hrel
                by_cases hlt : k < l.length
                · have htk := all_take (f := (fun c => pmE 0 0 [c] r v x t u == 0)) hlt
                  have HTK := Lib.hid (show (pz && (l.take (k + 1)).all (fun c => pmE 0 0 [c] r v x t u == 0)) = (pb && (pmE 0 0 [l.getD k zC] r v x t u == 0)) by rw [htk, ← Bool.and_assoc, ← HPB.out])
                  clear htk HPB
                  cases pb
                  · go_wp2_with fail
                    go_quiet (fail)
                    go_wp2
                    go_roundw
                    case rel => exact ⟨k + 1, false, by omega, by go_num, rfl, Lib.hid (by rw [HTK.out]; rfl), Lib.hid (HW.out.trans (below_drewN' _ _ _))⟩
                    case measure => simp [intOf]; omega
                  · obtain ⟨a2, cap2, hva, hcp2, -, hcs⟩ := H.out
                    obtain ⟨rfl, rfl⟩ : a = a2 ∧ cap = cap2 := by simpa using hva
                    obtain ⟨b, off, rfl, -⟩ := hcs (by intro h; rw [h] at hlt; simp at hlt)
                    clear hcs hva
                    have HB7 := Lib.hid (keep2 HW.out HB2000.out)
                    have HPT := Lib.hid (cv_part (H.out.step HB7.out) hlt)
                    have RK := Lib.hid (RK2000.out.step HW.out)
                    generalize l.getD k zC = c at *
                    obtain ⟨ek, hek⟩ : ∃ ek, pmE 0 0 [c] r v x t u = ek := ⟨_, rfl⟩
                    rw [hek] at HTK
                    replace hek := Lib.hid hek
                    obtain ⟨eb, heb⟩ : ∃ eb : Bool, (ek == 0) = eb := ⟨_, rfl⟩
                    rw [heb] at HTK
                    replace heb := Lib.hid heb
                    have hkc : k < cap := by omega
                    have hkb : (k : Int) + 1 ≤ 9223372036854775807 := by omega
                    go_wp2_with fail
                    obtain ⟨lit, hlit⟩ : ∃ lit : (Nat → Value) → Act, lit = fun vs => { tmps := List.toArray (Value.int IntKind.i64 key :: Value.int IntKind.i64 id :: Value.slice (some { block := b, off := off }) l.length cap :: Value.agg #[Value.int IntKind.i64 ck, Value.int IntKind.i64 cz] :: Value.agg #[Value.int IntKind.i64 r, Value.int IntKind.i64 v, Value.int IntKind.i64 x, Value.int IntKind.i64 t] :: Value.int IntKind.i64 u :: Value.slice oa one.length oc :: Value.slice wa two.length wk :: undef :: undef :: undef :: Value.pointer (some { block := w.heap.size, off := 0 }) :: Value.pointer (some { block := w.heap.size + 1, off := 0 }) :: undef :: undef :: undef :: Value.bool false :: Value.bool true :: Value.pointer (some { block := u20.heap.size, off := 0 }) :: Value.bool true :: Value.pointer (some { block := u21.heap.size, off := 0 }) :: Value.bool true :: Value.pointer (some { block := u22.heap.size, off := 0 }) :: Value.bool true :: Value.pointer (some { block := u24.heap.size, off := 0 }) :: Value.int IntKind.i64 0 :: Value.pointer (some { block := u25.heap.size, off := 0 }) :: Value.int IntKind.i64 0 :: Value.slice ca CH.length cc :: Value.bool rb :: Value.int IntKind.i64 (CH.length : Int) :: vs 13 :: Value.int IntKind.i64 (k : Int) :: undef :: undef :: undef :: undef :: Value.bool true :: Value.slice (some { block := b, off := off }) l.length cap :: Value.int IntKind.i64 (l.length : Int) :: Value.bool false :: Value.bool false :: Value.slice oa one.length oc :: Value.int IntKind.i64 (one.length : Int) :: Value.bool false :: Value.bool false :: Value.bool false :: Value.slice wa two.length wk :: Value.int IntKind.i64 (two.length : Int) :: Value.bool false :: Value.bool false :: undef :: Value.tuple #[Value.agg #[Value.int IntKind.i64 i1, Value.slice sa l.length sc, Value.int IntKind.i64 t1], Value.bool true] :: Value.int IntKind.i64 key :: Value.int IntKind.i64 id :: Value.slice (some { block := b, off := off }) l.length cap :: Value.tuple #[Value.agg #[Value.int IntKind.i64 i1, Value.slice sa l.length sc, Value.int IntKind.i64 t1], Value.bool true] :: Value.agg #[Value.int IntKind.i64 i1, Value.slice sa l.length sc, Value.int IntKind.i64 t1] :: Value.bool true :: Value.tuple #[Value.agg #[Value.slice L1a L1.length L1c], Value.bool true] :: Value.slice oa one.length oc :: Value.tuple #[Value.agg #[Value.slice L1a L1.length L1c], Value.bool true] :: Value.agg #[Value.slice L1a L1.length L1c] :: Value.bool true :: Value.tuple #[Value.agg #[Value.slice L2a L2.length L2c], Value.bool true] :: Value.slice wa two.length wk :: Value.tuple #[Value.agg #[Value.slice L2a L2.length L2c], Value.bool true] :: Value.agg #[Value.slice L2a L2.length L2c] :: Value.bool true :: Value.bool true :: Value.bool false :: Value.bool false :: Value.bool true :: Value.bool false :: Value.bool false :: Value.bool false :: Value.bool true :: Value.bool false :: Value.bool false :: undef :: Value.tuple #[Value.agg #[Value.slice ma M.length mc], Value.int IntKind.i64 0] :: Value.agg #[Value.slice L1a L1.length L1c] :: Value.agg #[Value.slice L2a L2.length L2c] :: Value.tuple #[Value.agg #[Value.slice ma M.length mc], Value.int IntKind.i64 0] :: Value.agg #[Value.slice ma M.length mc] :: Value.int IntKind.i64 0 :: Value.tuple #[Value.agg #[Value.slice na M.length nc], Value.int IntKind.i64 0] :: Value.agg #[Value.slice L2a L2.length L2c] :: Value.agg #[Value.slice L1a L1.length L1c] :: Value.tuple #[Value.agg #[Value.slice na M.length nc], Value.int IntKind.i64 0] :: Value.agg #[Value.slice na M.length nc] :: Value.int IntKind.i64 0 :: Value.int IntKind.i64 0 :: Value.bool false :: Value.bool false :: Value.int IntKind.i64 0 :: Value.bool false :: Value.bool false :: Value.bool false :: Value.agg #[Value.slice ma M.length mc] :: Value.agg #[Value.slice na M.length nc] :: Value.bool true :: Value.bool false :: Value.bool false :: Value.int IntKind.i64 key :: Value.agg #[Value.int IntKind.i64 i1, Value.slice sa l.length sc, Value.int IntKind.i64 t1] :: Value.slice ca CH.length cc :: Value.int IntKind.i64 (CH.length : Int) :: Value.slice ca CH.length cc :: Value.int IntKind.i64 (CH.length : Int) :: Value.bool false :: u111 :: u112 :: u113 :: u114 :: u115 :: u116 :: u117 :: u118 :: u119 :: u120 :: u121 :: u122 :: u123 :: u124 :: u125 :: u126 :: u127 :: u128 :: u129 :: u130 :: u131 :: u132 :: u133 :: u134 :: u135 :: u136 :: u137 :: u138 :: u139 :: Value.int IntKind.i64 (k : Int) :: Value.slice (some { block := b, off := off }) l.length cap :: Value.int IntKind.i64 (l.length : Int) :: Value.bool true :: u144 :: u145 :: vs 0 :: vs 1 :: vs 2 :: vs 3 :: vs 4 :: vs 5 :: vs 6 :: vs 7 :: vs 8 :: vs 9 :: vs 10 :: vs 11 :: vs 12 :: undef :: undef :: undef :: undef :: undef :: undef :: undef :: undef :: undef :: undef :: undef :: undef :: undef :: undef :: undef :: undef :: undef :: undef :: undef :: undef :: undef :: undef :: undef :: undef :: undef :: undef :: undef :: undef :: undef :: undef :: undef :: undef :: undef :: undef :: undef :: undef :: undef :: undef :: undef :: undef :: undef :: undef :: undef :: undef :: undef :: undef :: undef :: undef :: undef :: undef :: undef :: undef :: undef :: undef :: undef :: undef :: undef :: undef :: undef :: undef :: undef :: undef :: undef :: undef :: undef :: undef :: undef :: []), defers := [] } := ⟨_, rfl⟩
                    have HLIT := Lib.hid hlit
                    clear hlit
                    obtain ⟨val, hval⟩ : ∃ val : List Value, val = [.bool true, .bool true, .slice (some ⟨b, off, none⟩) l.length cap, .int .i64 (k : Int), .int .i64 (k : Int), .int .i64 ((k : Int) + 1), .slice (some ⟨b, off + k * 2, none⟩) 1 (cap - k), .agg #[.int .i64 0, .slice (some ⟨b, off + k * 2, none⟩) 1 (cap - k), .int .i64 0], .agg #[.int .i64 r, .int .i64 v, .int .i64 x, .int .i64 t], .int .i64 u, .int .i64 ek, .bool eb, .bool eb, .bool eb] := ⟨_, rfl⟩
                    have E0 := Lib.hid (show val.getD 0 undef = .bool true by rw [hval]; rfl)
                    have E1 := Lib.hid (show val.getD 1 undef = .bool true by rw [hval]; rfl)
                    have E2 := Lib.hid (show val.getD 2 undef = .slice (some ⟨b, off, none⟩) l.length cap by rw [hval]; rfl)
                    have E3 := Lib.hid (show val.getD 3 undef = .int .i64 (k : Int) by rw [hval]; rfl)
                    have E4 := Lib.hid (show val.getD 4 undef = .int .i64 (k : Int) by rw [hval]; rfl)
                    have E5 := Lib.hid (show val.getD 5 undef = .int .i64 ((k : Int) + 1) by rw [hval]; rfl)
                    have E6 := Lib.hid (show val.getD 6 undef = .slice (some ⟨b, off + k * 2, none⟩) 1 (cap - k) by rw [hval]; rfl)
                    have E7 := Lib.hid (show val.getD 7 undef = .agg #[.int .i64 0, .slice (some ⟨b, off + k * 2, none⟩) 1 (cap - k), .int .i64 0] by rw [hval]; rfl)
                    have E8 := Lib.hid (show val.getD 8 undef = .agg #[.int .i64 r, .int .i64 v, .int .i64 x, .int .i64 t] by rw [hval]; rfl)
                    have E9 := Lib.hid (show val.getD 9 undef = .int .i64 u by rw [hval]; rfl)
                    have E10 := Lib.hid (show val.getD 10 undef = .int .i64 ek by rw [hval]; rfl)
                    have E11 := Lib.hid (show val.getD 11 undef = .bool eb by rw [hval]; rfl)
                    have E12 := Lib.hid (show val.getD 12 undef = .bool eb by rw [hval]; rfl)
                    have E13 := Lib.hid (show val.getD 13 undef = .bool eb by rw [hval]; rfl)
                    clear hval
                    obtain ⟨G, hG0⟩ : ∃ G : Nat → Value → World → Prop, G = (fun i v w => (v = val.getD i undef)) := ⟨_, rfl⟩
                    have HG := Lib.hid hG0
                    clear hG0
                    refine region_inv (RO lit wr G) (by kernel_rfl) (by decide +kernel) ?_ ?_ ?_
                    · exact ⟨fun i => ([u146, u147, u148, u149, u150, u151, u152, u153, u154, u155, u156, u157, u158, Value.bool true] : List Value).getD i undef, (by rw [HLIT.out]; rfl), (fun _ => rfl), (fun h => by cases h), below_drew _ _, fun i h => by cases h⟩
                    · refine ⟨?_, ?_, ?_, ?_, ?_, ?_, ?_, ?_, ?_, ?_, ?_, ?_, ?_, ?_, trivial⟩
                      · intro bf ac wv hfb haf hJ K' hK
                        obtain ⟨vs, rfl, j5, j6, hM, j4⟩ := hJ
                        replace hK := Lib.hid hK
                        replace hM := Lib.hid hM
                        rw [HG.out] at j4
                        have e13 := j5 (Bool.eq_false_iff.2 fun h => absurd ((j6 h).symm.trans hfb) (by simp))
                        replace j4 := Lib.hid j4
                        replace j5 := Lib.hid j5
                        replace j6 := Lib.hid j6
                        clear haf hfb
                        rw [HLIT.out]
                        go_simp
                        exact hK.out _ _ (RO.next (wv := wv) (vs := vs) 0 (by omega) (x := .bool true) (by rw [HLIT.out]; simp only [upv, e13, Nat.reduceBEq, cond_true, cond_false]) j5.out j6.out (by rw [HG.out]; exact j4.out) hM.out (by rw [HG.out]; exact fun _ _ h => h) (by rw [HG.out]; exact E0.out.symm))
                      · intro bf ac wv hfb haf hJ K' hK
                        obtain ⟨vs, rfl, j5, j6, hM, j4⟩ := hJ
                        replace hK := Lib.hid hK
                        replace hM := Lib.hid hM
                        rw [HG.out] at j4
                        simp [Region.binds] at haf
                        have e0 := ((j4 0 (by simp [haf]))).trans E0.out
                        replace j4 := Lib.hid j4
                        replace j5 := Lib.hid j5
                        replace j6 := Lib.hid j6
                        clear haf hfb
                        rw [HLIT.out]
                        go_simp
                        exact hK.out _ _ (RO.next (wv := wv) (vs := vs) 1 (by omega) (x := .bool true) (by rw [HLIT.out]; simp only [upv, e0, Nat.reduceBEq, cond_true, cond_false]) j5.out j6.out (by rw [HG.out]; exact j4.out) hM.out (by rw [HG.out]; exact fun _ _ h => h) (by rw [HG.out]; exact E1.out.symm))
                      · intro bf ac wv hfb haf hJ K' hK
                        obtain ⟨vs, rfl, j5, j6, hM, j4⟩ := hJ
                        replace hK := Lib.hid hK
                        replace hM := Lib.hid hM
                        rw [HG.out] at j4
                        simp [Region.binds] at haf
                        have e1 := ((j4 1 (by simp [haf]))).trans E1.out
                        replace j4 := Lib.hid j4
                        replace j5 := Lib.hid j5
                        replace j6 := Lib.hid j6
                        clear haf hfb
                        rw [HLIT.out]
                        go_simp
                        exact hK.out _ _ (RO.next (wv := wv) (vs := vs) 2 (by omega) (x := .slice (some ⟨b, off, none⟩) l.length cap) (by rw [HLIT.out]; simp only [upv, e1, Nat.reduceBEq, cond_true, cond_false]) j5.out j6.out (by rw [HG.out]; exact j4.out) hM.out (by rw [HG.out]; exact fun _ _ h => h) (by rw [HG.out]; exact E2.out.symm))
                      · intro bf ac wv hfb haf hJ K' hK
                        obtain ⟨vs, rfl, j5, j6, hM, j4⟩ := hJ
                        replace hK := Lib.hid hK
                        replace hM := Lib.hid hM
                        rw [HG.out] at j4
                        simp [Region.binds] at haf
                        have e1 := ((j4 1 (by simp [haf]))).trans E1.out
                        replace j4 := Lib.hid j4
                        replace j5 := Lib.hid j5
                        replace j6 := Lib.hid j6
                        clear haf hfb
                        rw [HLIT.out]
                        go_simp
                        exact hK.out _ _ (RO.next (wv := wv) (vs := vs) 3 (by omega) (x := .int .i64 (k : Int)) (by rw [HLIT.out]; simp only [upv, e1, Nat.reduceBEq, cond_true, cond_false]) j5.out j6.out (by rw [HG.out]; exact j4.out) hM.out (by rw [HG.out]; exact fun _ _ h => h) (by rw [HG.out]; exact E3.out.symm))
                      · intro bf ac wv hfb haf hJ K' hK
                        obtain ⟨vs, rfl, j5, j6, hM, j4⟩ := hJ
                        replace hK := Lib.hid hK
                        replace hM := Lib.hid hM
                        rw [HG.out] at j4
                        simp [Region.binds] at haf
                        have e1 := ((j4 1 (by simp [haf]))).trans E1.out
                        replace j4 := Lib.hid j4
                        replace j5 := Lib.hid j5
                        replace j6 := Lib.hid j6
                        clear haf hfb
                        rw [HLIT.out]
                        go_simp
                        exact hK.out _ _ (RO.next (wv := wv) (vs := vs) 4 (by omega) (x := .int .i64 (k : Int)) (by rw [HLIT.out]; simp only [upv, e1, Nat.reduceBEq, cond_true, cond_false]) j5.out j6.out (by rw [HG.out]; exact j4.out) hM.out (by rw [HG.out]; exact fun _ _ h => h) (by rw [HG.out]; exact E4.out.symm))
                      · intro bf ac wv hfb haf hJ K' hK
                        obtain ⟨vs, rfl, j5, j6, hM, j4⟩ := hJ
                        replace hK := Lib.hid hK
                        replace hM := Lib.hid hM
                        rw [HG.out] at j4
                        simp [Region.binds] at haf
                        have e1 := ((j4 1 (by simp [haf]))).trans E1.out
                        have e4 := ((j4 4 (by simp [haf]))).trans E4.out
                        replace j4 := Lib.hid j4
                        replace j5 := Lib.hid j5
                        replace j6 := Lib.hid j6
                        clear haf hfb
                        have w1 : IntKind.i64.wrap ((k : Int) + 1) = (k : Int) + 1 := IntWalk.i64_in _ (by omega)
                        have w2 : wrap64 ((k : Int) + 1) = (k : Int) + 1 := IntWalk.wrap64_in _ (by omega)
                        rw [HLIT.out]
                        go_simp
                        exact hK.out _ _ (RO.next (wv := wv) (vs := vs) 5 (by omega) (x := .int .i64 ((k : Int) + 1)) (by rw [HLIT.out]; simp only [upv, e1, e4, w1, w2, Nat.reduceBEq, cond_true, cond_false]) j5.out j6.out (by rw [HG.out]; exact j4.out) hM.out (by rw [HG.out]; exact fun _ _ h => h) (by rw [HG.out]; exact E5.out.symm))
                      · intro bf ac wv hfb haf hJ K' hK
                        obtain ⟨vs, rfl, j5, j6, hM, j4⟩ := hJ
                        replace hK := Lib.hid hK
                        replace hM := Lib.hid hM
                        rw [HG.out] at j4
                        simp [Region.binds] at haf
                        have e1 := ((j4 1 (by simp [haf]))).trans E1.out
                        have e2 := ((j4 2 (by simp [haf]))).trans E2.out
                        have e3 := ((j4 3 (by simp [haf]))).trans E3.out
                        have e5 := ((j4 5 (by simp [haf]))).trans E5.out
                        replace j4 := Lib.hid j4
                        replace j5 := Lib.hid j5
                        replace j6 := Lib.hid j6
                        clear haf hfb
                        have y1 : (k : Int) ≤ (k : Int) + 1 := by omega
                        have y2 : (k : Int) + 1 ≤ (cap : Int) := by omega
                        have y3 : (0 : Int) ≤ (k : Int) := by omega
                        have y4 : ¬ cap - k = 0 := by omega
                        have y5 : ¬ cap = k := by omega
                        rw [HLIT.out]
                        go_simp
                        exact hK.out _ _ (RO.next (wv := wv) (vs := vs) 6 (by omega) (x := .slice (some ⟨b, off + k * 2, none⟩) 1 (cap - k)) (by rw [HLIT.out]; simp only [upv, e1, e2, e3, e5, if_neg y5, Nat.reduceBEq, cond_true, cond_false]) j5.out j6.out (by rw [HG.out]; exact j4.out) hM.out (by rw [HG.out]; exact fun _ _ h => h) (by rw [HG.out]; exact E6.out.symm))
                      · intro bf ac wv hfb haf hJ K' hK
                        obtain ⟨vs, rfl, j5, j6, hM, j4⟩ := hJ
                        replace hK := Lib.hid hK
                        replace hM := Lib.hid hM
                        rw [HG.out] at j4
                        simp [Region.binds] at haf
                        have e1 := ((j4 1 (by simp [haf]))).trans E1.out
                        have e6 := ((j4 6 (by simp [haf]))).trans E6.out
                        replace j4 := Lib.hid j4
                        replace j5 := Lib.hid j5
                        replace j6 := Lib.hid j6
                        clear haf hfb
                        rw [HLIT.out]
                        go_simp
                        exact hK.out _ _ (RO.next (wv := wv) (vs := vs) 7 (by omega) (x := .agg #[.int .i64 0, .slice (some ⟨b, off + k * 2, none⟩) 1 (cap - k), .int .i64 0]) (by rw [HLIT.out]; simp only [upv, e1, e6, Nat.reduceBEq, cond_true, cond_false]) j5.out j6.out (by rw [HG.out]; exact j4.out) hM.out (by rw [HG.out]; exact fun _ _ h => h) (by rw [HG.out]; exact E7.out.symm))
                      · intro bf ac wv hfb haf hJ K' hK
                        obtain ⟨vs, rfl, j5, j6, hM, j4⟩ := hJ
                        replace hK := Lib.hid hK
                        replace hM := Lib.hid hM
                        rw [HG.out] at j4
                        simp [Region.binds] at haf
                        have e1 := ((j4 1 (by simp [haf]))).trans E1.out
                        replace j4 := Lib.hid j4
                        replace j5 := Lib.hid j5
                        replace j6 := Lib.hid j6
                        clear haf hfb
                        have K1 := RK.out.step hM.out
                        have x0 := K1.c 0 rfl
                        have x1 := K1.c 1 rfl
                        have x2 := K1.c 2 rfl
                        have x3 := K1.c 3 rfl
                        have xz := K1.2.2
                        clear K1
                        rw [HLIT.out]
                        go_simp
                        exact hK.out _ _ (RO.next (wv := wv) (vs := vs) 8 (by omega) (x := .agg #[.int .i64 r, .int .i64 v, .int .i64 x, .int .i64 t]) (by rw [HLIT.out]; simp only [upv, e1, Nat.reduceBEq, cond_true, cond_false]) j5.out j6.out (by rw [HG.out]; exact j4.out) hM.out (by rw [HG.out]; exact fun _ _ h => h) (by rw [HG.out]; exact E8.out.symm))
                      · intro bf ac wv hfb haf hJ K' hK
                        obtain ⟨vs, rfl, j5, j6, hM, j4⟩ := hJ
                        replace hK := Lib.hid hK
                        replace hM := Lib.hid hM
                        rw [HG.out] at j4
                        simp [Region.binds] at haf
                        have e1 := ((j4 1 (by simp [haf]))).trans E1.out
                        replace j4 := Lib.hid j4
                        replace j5 := Lib.hid j5
                        replace j6 := Lib.hid j6
                        clear haf hfb
                        rw [HLIT.out]
                        go_simp
                        exact hK.out _ _ (RO.next (wv := wv) (vs := vs) 9 (by omega) (x := .int .i64 u) (by rw [HLIT.out]; simp only [upv, e1, Nat.reduceBEq, cond_true, cond_false]) j5.out j6.out (by rw [HG.out]; exact j4.out) hM.out (by rw [HG.out]; exact fun _ _ h => h) (by rw [HG.out]; exact E9.out.symm))
                      · intro bf ac wv hfb haf hJ K' hK
                        obtain ⟨vs, rfl, j5, j6, hM, j4⟩ := hJ
                        replace hK := Lib.hid hK
                        replace hM := Lib.hid hM
                        rw [HG.out] at j4
                        simp [Region.binds] at haf
                        have e1 := ((j4 1 (by simp [haf]))).trans E1.out
                        have e7 := ((j4 7 (by simp [haf]))).trans E7.out
                        have e8 := ((j4 8 (by simp [haf]))).trans E8.out
                        have e9 := ((j4 9 (by simp [haf]))).trans E9.out
                        replace j4 := Lib.hid j4
                        replace j5 := Lib.hid j5
                        replace j6 := Lib.hid j6
                        clear haf hfb
                        rw [HLIT.out]
                        go_simp
                        go_at_call 12
                        refine (permits_any 0 0 r v x t u _ [c] _ (HPT.out.step hM.out)).mono ?_
                        rintro e w4 ⟨rfl, b4⟩
                        rw [hek.out]
                        exact hK.out _ _ (RO.next (wv := wv) (vs := vs) 10 (by omega) (x := .int .i64 ek) (by rw [HLIT.out]; simp only [upv, e1, e7, e8, e9, Nat.reduceBEq, cond_true, cond_false]) j5.out j6.out (by rw [HG.out]; exact j4.out) (keep2 b4 hM.out) (by rw [HG.out]; exact fun _ _ h => h) (by rw [HG.out]; exact E10.out.symm))
                      · intro bf ac wv hfb haf hJ K' hK
                        obtain ⟨vs, rfl, j5, j6, hM, j4⟩ := hJ
                        replace hK := Lib.hid hK
                        replace hM := Lib.hid hM
                        rw [HG.out] at j4
                        simp [Region.binds] at haf
                        have e1 := ((j4 1 (by simp [haf]))).trans E1.out
                        have e10 := ((j4 10 (by simp [haf]))).trans E10.out
                        replace j4 := Lib.hid j4
                        replace j5 := Lib.hid j5
                        replace j6 := Lib.hid j6
                        clear haf hfb
                        have z1 : (ek == 0) = eb := heb.out
                        have z2 : decide (ek = 0) = eb := by rw [← heb.out]; rfl
                        rw [HLIT.out]
                        go_simp
                        exact hK.out _ _ (RO.next (wv := wv) (vs := vs) 11 (by omega) (x := .bool eb) (by rw [HLIT.out]; simp only [upv, e1, e10, z1, z2, Nat.reduceBEq, cond_true, cond_false]) j5.out j6.out (by rw [HG.out]; exact j4.out) hM.out (by rw [HG.out]; exact fun _ _ h => h) (by rw [HG.out]; exact E11.out.symm))
                      · intro bf ac wv hfb haf hJ K' hK
                        obtain ⟨vs, rfl, j5, j6, hM, j4⟩ := hJ
                        replace hK := Lib.hid hK
                        replace hM := Lib.hid hM
                        rw [HG.out] at j4
                        simp [Region.binds] at haf
                        have e1 := ((j4 1 (by simp [haf]))).trans E1.out
                        have e11 := ((j4 11 (by simp [haf]))).trans E11.out
                        replace j4 := Lib.hid j4
                        replace j5 := Lib.hid j5
                        replace j6 := Lib.hid j6
                        clear haf hfb
                        rw [HLIT.out]
                        go_simp
                        exact hK.out _ _ (RO.next (wv := wv) (vs := vs) 12 (by omega) (x := .bool eb) (by rw [HLIT.out]; simp only [upv, e1, e11, Nat.reduceBEq, cond_true, cond_false]) j5.out j6.out (by rw [HG.out]; exact j4.out) hM.out (by rw [HG.out]; exact fun _ _ h => h) (by rw [HG.out]; exact E12.out.symm))
                      · intro bf ac wv hfb haf hJ K' hK
                        obtain ⟨vs, rfl, j5, j6, hM, j4⟩ := hJ
                        replace hK := Lib.hid hK
                        replace hM := Lib.hid hM
                        rw [HG.out] at j4
                        simp [Region.binds] at haf
                        have e12 := ((j4 12 (by simp [haf]))).trans E12.out
                        have h0 : bf 0 = true := by simp [haf]
                        replace j4 := Lib.hid j4
                        replace j5 := Lib.hid j5
                        replace j6 := Lib.hid j6
                        clear haf hfb
                        rw [HLIT.out]
                        go_simp
                        exact hK.out _ _ (RO.last (wv := wv) (vs := vs) (x := .bool eb) (by rw [HLIT.out]; simp only [upv, e12, Nat.reduceBEq, cond_true, cond_false]) h0 (by rw [HG.out]; exact j4.out) hM.out (by rw [HG.out]; exact fun _ _ h => h) (by rw [HG.out]; exact E13.out.symm))
                    · intro bf ac wv hall hJ
                      obtain ⟨vs, rfl, -, -, hM, j4⟩ := hJ
                      rw [HG.out] at j4
                      have ez := ((j4 13 (hall 13 (by decide)))).trans E13.out
                      clear hall j4
                      rw [HLIT.out]
                      dsimp only
                      rw [ez]
                      clear ez
                      have HW9 := Lib.hid (HW.out.trans (hM.mono HW.out.size))
                      clear hM
                      go_wp2
                      go_roundw
                      case rel => exact ⟨k + 1, eb, by omega, by go_num, rfl, Lib.hid (by rw [HTK.out]; rfl), HW9⟩
                      case measure => simp [intOf]; omega
                · obtain rfl : k = l.length := by omega
                  have HPA := Lib.hid (show pb = pAll l r v x t u by unfold pAll; rw [hpz.out, HPB.out, List.take_length])
                  clear HPB
                  have RV3000 := Lib.hid (RV2000.out.step HW.out)
                  have RK3000 := Lib.hid (RK2000.out.step HW.out)
                  have RC3000 := Lib.hid (RC2000.out.step HW.out)
                  have RM3000 := Lib.hid (RM2000.out.step HW.out)
                  replace HS := Lib.hid (HS.out.step HW.out)
                  replace HM := Lib.hid (HM.out.step HW.out)
                  replace HCI := Lib.hid (HCI.out.step HW.out)
                  have HB3000 := Lib.hid (keep2 HW.out HB2000.out)
                  clear HB2000 HW RV2000 RK2000 RC2000 RM2000
                  obtain ⟨wx, hwz⟩ : ∃ wz, wr = wz := ⟨_, rfl⟩
                  rw [hwz] at RV3000 RK3000 RC3000 RM3000 HS HM HCI HB3000 ⊢
                  clear hwz
                  have xK0 : wx.cell? ⟨w.heap.size + 1, 0, none⟩ = some (.int .i64 r) := RK3000.out.c 0 rfl
                  have xK1 : wx.cell? ⟨w.heap.size + 1, 1, none⟩ = some (.int .i64 v) := RK3000.out.c 1 rfl
                  have xK2 : wx.cell? ⟨w.heap.size + 1, 2, none⟩ = some (.int .i64 x) := RK3000.out.c 2 rfl
                  have xK3 : wx.cell? ⟨w.heap.size + 1, 3, none⟩ = some (.int .i64 t) := RK3000.out.c 3 rfl
                  have zK : w.heap.size + 1 < wx.heap.size := RK3000.out.2.2
                  have z2K : w.heap.size + 1 < wx.heap.size + 1 := by omega
                  have xC0 : wx.cell? ⟨u20.heap.size, 0, none⟩ = some (.int .i64 i1) := RC3000.out.c 0 rfl
                  have xC1 : wx.cell? ⟨u20.heap.size, 1, none⟩ = some (.slice sa l.length sc) := RC3000.out.c 1 rfl
                  have xC2 : wx.cell? ⟨u20.heap.size, 2, none⟩ = some (.int .i64 t1) := RC3000.out.c 2 rfl
                  have zC : u20.heap.size < wx.heap.size := RC3000.out.2.2
                  have z2C : u20.heap.size < wx.heap.size + 1 := by omega
                  have xM0 : wx.cell? ⟨u24.heap.size, 0, none⟩ = some (.slice ma M.length mc) := RM3000.out.c 0 rfl
                  have zM : u24.heap.size < wx.heap.size := RM3000.out.2.2
                  have z2M : u24.heap.size < wx.heap.size + 1 := by omega
                  go_wp2_with fail
                  refine (chk_any key i1 t1 r v x t u _ _ M l _ HS.out HM.out.1).mono ?_
                  rintro e u40 ⟨rfl, b40⟩
                  obtain ⟨E, hE⟩ : ∃ E, ckR key M i1 t1 l r v x t u = E := ⟨_, rfl⟩
                  rw [hE]
                  have hgot := tg_got (r := r) (v := v) (x := x) (t := t) (u := u) HG1.out SM.out
                  rw [hE, hCH.out, ← HPA.out, ← HRV.out] at hgot
                  replace hE := Lib.hid hE
                  have HGOT := Lib.hid hgot
                  clear hgot
                  replace HS := Lib.hid (HS.out.step b40)
                  replace HM := Lib.hid (HM.out.step b40)
                  replace HCI := Lib.hid (HCI.out.step b40)
                  clear xK0 xK1 xK2 xK3 zK z2K xC0 xC1 xC2 zC z2C xM0 zM z2M
                  have KV_3001 := Lib.hid (RV3000.out.step b40)
                  clear RV3000
                  have KK_3002 := Lib.hid (RK3000.out.step b40)
                  clear RK3000
                  have KC_3003 := Lib.hid (RC3000.out.step b40)
                  clear RC3000
                  have KM_3004 := Lib.hid (RM3000.out.step b40)
                  clear RM3000
                  have HB3005 := Lib.hid (keep2 b40 HB3000.out)
                  clear HB3000 b40
                  have hl1 : CH.length = l.length + 1 := hcl.out
                  have hl2 : ((CH.length : Int) != ((l.length : Int) + 1)) = false := by rw [hl1]; simp
                  have hl3 : (CH.length : Int) = (l.length : Int) + 1 := by omega
                  clear hl1
                  cases pb
                  · cases rb
                    · have E0 : E ≠ 0 := fun q => by have h := HGOT.out.1 q; simp at h
                      have E1 : (E == 0) = false := by simpa using E0
                      have E2 : decide (E = 0) = false := by simpa using E0
                      clear HGOT
                      have xV0 : u40.cell? ⟨w.heap.size, 0, none⟩ = some (.int .i64 ck) := KV_3001.out.c 0 rfl
                      have xV1 : u40.cell? ⟨w.heap.size, 1, none⟩ = some (.int .i64 cz) := KV_3001.out.c 1 rfl
                      have zV : w.heap.size < u40.heap.size := KV_3001.out.2.2
                      have z2V : w.heap.size < u40.heap.size + 1 := by omega
                      have xC0 : u40.cell? ⟨u20.heap.size, 0, none⟩ = some (.int .i64 i1) := KC_3003.out.c 0 rfl
                      have xC1 : u40.cell? ⟨u20.heap.size, 1, none⟩ = some (.slice sa l.length sc) := KC_3003.out.c 1 rfl
                      have xC2 : u40.cell? ⟨u20.heap.size, 2, none⟩ = some (.int .i64 t1) := KC_3003.out.c 2 rfl
                      have zC : u20.heap.size < u40.heap.size := KC_3003.out.2.2
                      have z2C : u20.heap.size < u40.heap.size + 1 := by omega
                      go_wp2_with fail
                      refine (narrow_any i1 t1 ck cz _ l _ HS.out).mono ?_
                      rintro e u41 ⟨vr, rfl, b41, hp1, hp2⟩
                      obtain ⟨er, her⟩ : ∃ er, nrE i1 t1 l ck cz = er := ⟨_, rfl⟩
                      rw [her] at hp1 hp2 ⊢
                      by_cases n0 : er = 0
                      · subst n0
                        obtain ⟨su, rfl, hs⟩ := hp1 rfl
                        clear hp1 hp2
                        have HER := Lib.hid her
                        clear her
                        have HD := Lib.hid hs
                        obtain ⟨da, dc, rfl, -⟩ := hs
                        have hln : (l ++ [(⟨ck, cz⟩ : Cv)]).length = l.length + 1 := by simp
                        rw [hln] at HD ⊢
                        clear hln
                        obtain ⟨T2, hT2⟩ : ∃ T2, tgN t1 ⟨ck, cz⟩ = T2 := ⟨_, rfl⟩
                        rw [hT2]
                        replace hT2 := Lib.hid hT2
                        replace HS := Lib.hid (HS.out.step b41)
                        replace HM := Lib.hid (HM.out.step b41)
                        replace HCI := Lib.hid (HCI.out.step b41)
                        clear xV0 xV1 zV z2V xC0 xC1 xC2 zC z2C
                        have KV_3006 := Lib.hid (KV_3001.out.step b41)
                        clear KV_3001
                        have KK_3007 := Lib.hid (KK_3002.out.step b41)
                        clear KK_3002
                        have KC_3008 := Lib.hid (KC_3003.out.step b41)
                        clear KC_3003
                        have KM_3009 := Lib.hid (KM_3004.out.step b41)
                        clear KM_3004
                        have HB3010 := Lib.hid (keep2 b41 HB3005.out)
                        clear HB3005 b41
                        replace HS := Lib.hid (HS.out.step (al u41 (.cells #[.int .i64 i1, .slice da (l.length + 1) dc, .int .i64 T2] 30)))
                        replace HM := Lib.hid (HM.out.step (al u41 (.cells #[.int .i64 i1, .slice da (l.length + 1) dc, .int .i64 T2] 30)))
                        replace HCI := Lib.hid (HCI.out.step (al u41 (.cells #[.int .i64 i1, .slice da (l.length + 1) dc, .int .i64 T2] 30)))
                        replace HD := Lib.hid (HD.out.step (al u41 (.cells #[.int .i64 i1, .slice da (l.length + 1) dc, .int .i64 T2] 30)))
                        have KV_3011 := Lib.hid (KV_3006.out.alloc (.cells #[.int .i64 i1, .slice da (l.length + 1) dc, .int .i64 T2] 30))
                        clear KV_3006
                        have KK_3012 := Lib.hid (KK_3007.out.alloc (.cells #[.int .i64 i1, .slice da (l.length + 1) dc, .int .i64 T2] 30))
                        clear KK_3007
                        have KC_3013 := Lib.hid (KC_3008.out.alloc (.cells #[.int .i64 i1, .slice da (l.length + 1) dc, .int .i64 T2] 30))
                        clear KC_3008
                        have KM_3014 := Lib.hid (KM_3009.out.alloc (.cells #[.int .i64 i1, .slice da (l.length + 1) dc, .int .i64 T2] 30))
                        clear KM_3009
                        have KD_3015 := Lib.hid (Cs.new u41 (u41.heap.size) #[.int .i64 i1, .slice da (l.length + 1) dc, .int .i64 T2] 30 (by simp))
                        have HB3016 : Hid (Below w.heap.size w (u41.alloc (.cells #[.int .i64 i1, .slice da (l.length + 1) dc, .int .i64 T2] 30))) := HB3010.out.alloc HB3010.out.size _
                        clear HB3010
                        have xK0 : (u41.alloc (.cells #[.int .i64 i1, .slice da (l.length + 1) dc, .int .i64 T2] 30)).cell? ⟨w.heap.size + 1, 0, none⟩ = some (.int .i64 r) := KK_3012.out.c 0 rfl
                        have xK1 : (u41.alloc (.cells #[.int .i64 i1, .slice da (l.length + 1) dc, .int .i64 T2] 30)).cell? ⟨w.heap.size + 1, 1, none⟩ = some (.int .i64 v) := KK_3012.out.c 1 rfl
                        have xK2 : (u41.alloc (.cells #[.int .i64 i1, .slice da (l.length + 1) dc, .int .i64 T2] 30)).cell? ⟨w.heap.size + 1, 2, none⟩ = some (.int .i64 x) := KK_3012.out.c 2 rfl
                        have xK3 : (u41.alloc (.cells #[.int .i64 i1, .slice da (l.length + 1) dc, .int .i64 T2] 30)).cell? ⟨w.heap.size + 1, 3, none⟩ = some (.int .i64 t) := KK_3012.out.c 3 rfl
                        have zK : w.heap.size + 1 < (u41.alloc (.cells #[.int .i64 i1, .slice da (l.length + 1) dc, .int .i64 T2] 30)).heap.size := KK_3012.out.2.2
                        have z2K : w.heap.size + 1 < (u41.alloc (.cells #[.int .i64 i1, .slice da (l.length + 1) dc, .int .i64 T2] 30)).heap.size + 1 := by omega
                        have xM0 : (u41.alloc (.cells #[.int .i64 i1, .slice da (l.length + 1) dc, .int .i64 T2] 30)).cell? ⟨u24.heap.size, 0, none⟩ = some (.slice ma M.length mc) := KM_3014.out.c 0 rfl
                        have zM : u24.heap.size < (u41.alloc (.cells #[.int .i64 i1, .slice da (l.length + 1) dc, .int .i64 T2] 30)).heap.size := KM_3014.out.2.2
                        have z2M : u24.heap.size < (u41.alloc (.cells #[.int .i64 i1, .slice da (l.length + 1) dc, .int .i64 T2] 30)).heap.size + 1 := by omega
                        have xD0 : (u41.alloc (.cells #[.int .i64 i1, .slice da (l.length + 1) dc, .int .i64 T2] 30)).cell? ⟨u41.heap.size, 0, none⟩ = some (.int .i64 i1) := KD_3015.out.c 0 rfl
                        have xD1 : (u41.alloc (.cells #[.int .i64 i1, .slice da (l.length + 1) dc, .int .i64 T2] 30)).cell? ⟨u41.heap.size, 1, none⟩ = some (.slice da (l.length + 1) dc) := KD_3015.out.c 1 rfl
                        have xD2 : (u41.alloc (.cells #[.int .i64 i1, .slice da (l.length + 1) dc, .int .i64 T2] 30)).cell? ⟨u41.heap.size, 2, none⟩ = some (.int .i64 T2) := KD_3015.out.c 2 rfl
                        have zD : u41.heap.size < (u41.alloc (.cells #[.int .i64 i1, .slice da (l.length + 1) dc, .int .i64 T2] 30)).heap.size := KD_3015.out.2.2
                        have z2D : u41.heap.size < (u41.alloc (.cells #[.int .i64 i1, .slice da (l.length + 1) dc, .int .i64 T2] 30)).heap.size + 1 := by omega
                        go_wp2_with fail
                        refine (chk_any key i1 T2 r v x t u _ _ M (l ++ [⟨ck, cz⟩]) _ HD.out HM.out.1).mono ?_
                        rintro e u42 ⟨rfl, b42⟩
                        obtain ⟨A, hA⟩ : ∃ A, ckR key M i1 T2 (l ++ [⟨ck, cz⟩]) r v x t u = A := ⟨_, rfl⟩
                        rw [hA]
                        have hag := tg_again (c := ⟨ck, cz⟩) (r := r) (v := v) (x := x) (t := t) (u := u) HG1.out SM.out HER.out
                        rw [hT2.out, hA, hE.out, hCH.out, ← HRV.out] at hag
                        have HAG := Lib.hid hag
                        clear hag hA
                        replace HS := Lib.hid (HS.out.step b42)
                        replace HM := Lib.hid (HM.out.step b42)
                        replace HCI := Lib.hid (HCI.out.step b42)
                        replace HD := Lib.hid (HD.out.step b42)
                        clear xK0 xK1 xK2 xK3 zK z2K xM0 zM z2M xD0 xD1 xD2 zD z2D
                        have KV_3017 := Lib.hid (KV_3011.out.step b42)
                        clear KV_3011
                        have KK_3018 := Lib.hid (KK_3012.out.step b42)
                        clear KK_3012
                        have KC_3019 := Lib.hid (KC_3013.out.step b42)
                        clear KC_3013
                        have KM_3020 := Lib.hid (KM_3014.out.step b42)
                        clear KM_3014
                        have KD_3021 := Lib.hid (KD_3015.out.step b42)
                        clear KD_3015
                        have HB3022 := Lib.hid (keep2 b42 HB3016.out)
                        clear HB3016 b42
                        have a0 : A ≠ 0 := fun q => E0 (HAG.out q).1
                        have a1 : (A != 0) = true := by simpa using a0
                        have a2 : (A == 0) = false := by simpa using a0
                        have a3 : decide (A = 0) = false := by simpa using a0
                        clear a0 E0
                        go_wp2
                        go_ret
                        exact ⟨rfl, HB3022.out⟩
                      · obtain rfl := hp2 n0
                        obtain rfl := tg_err her n0 l1.out
                        clear hp1 hp2 n0 her
                        replace HS := Lib.hid (HS.out.step b41)
                        replace HM := Lib.hid (HM.out.step b41)
                        replace HCI := Lib.hid (HCI.out.step b41)
                        clear xV0 xV1 zV z2V xC0 xC1 xC2 zC z2C
                        have KV_3006 := Lib.hid (KV_3001.out.step b41)
                        clear KV_3001
                        have KK_3007 := Lib.hid (KK_3002.out.step b41)
                        clear KK_3002
                        have KC_3008 := Lib.hid (KC_3003.out.step b41)
                        clear KC_3003
                        have KM_3009 := Lib.hid (KM_3004.out.step b41)
                        clear KM_3004
                        have HB3010 := Lib.hid (keep2 b41 HB3005.out)
                        clear HB3005 b41
                        replace HS := Lib.hid (HS.out.step (al u41 (.cells #[.int .i64 0, .slice none 0 0, .int .i64 0] 30)))
                        replace HM := Lib.hid (HM.out.step (al u41 (.cells #[.int .i64 0, .slice none 0 0, .int .i64 0] 30)))
                        replace HCI := Lib.hid (HCI.out.step (al u41 (.cells #[.int .i64 0, .slice none 0 0, .int .i64 0] 30)))
                        have KV_3011 := Lib.hid (KV_3006.out.alloc (.cells #[.int .i64 0, .slice none 0 0, .int .i64 0] 30))
                        clear KV_3006
                        have KK_3012 := Lib.hid (KK_3007.out.alloc (.cells #[.int .i64 0, .slice none 0 0, .int .i64 0] 30))
                        clear KK_3007
                        have KC_3013 := Lib.hid (KC_3008.out.alloc (.cells #[.int .i64 0, .slice none 0 0, .int .i64 0] 30))
                        clear KC_3008
                        have KM_3014 := Lib.hid (KM_3009.out.alloc (.cells #[.int .i64 0, .slice none 0 0, .int .i64 0] 30))
                        clear KM_3009
                        have HB3015 : Hid (Below w.heap.size w (u41.alloc (.cells #[.int .i64 0, .slice none 0 0, .int .i64 0] 30))) := HB3010.out.alloc HB3010.out.size _
                        clear HB3010
                        go_wp2
                        go_ret
                        exact ⟨rfl, HB3015.out⟩
                    · have E0 : E ≠ 0 := fun q => by have h := HGOT.out.1 q; simp at h
                      have E1 : (E == 0) = false := by simpa using E0
                      have E2 : decide (E = 0) = false := by simpa using E0
                      clear HGOT
                      have xV0 : u40.cell? ⟨w.heap.size, 0, none⟩ = some (.int .i64 ck) := KV_3001.out.c 0 rfl
                      have xV1 : u40.cell? ⟨w.heap.size, 1, none⟩ = some (.int .i64 cz) := KV_3001.out.c 1 rfl
                      have zV : w.heap.size < u40.heap.size := KV_3001.out.2.2
                      have z2V : w.heap.size < u40.heap.size + 1 := by omega
                      have xC0 : u40.cell? ⟨u20.heap.size, 0, none⟩ = some (.int .i64 i1) := KC_3003.out.c 0 rfl
                      have xC1 : u40.cell? ⟨u20.heap.size, 1, none⟩ = some (.slice sa l.length sc) := KC_3003.out.c 1 rfl
                      have xC2 : u40.cell? ⟨u20.heap.size, 2, none⟩ = some (.int .i64 t1) := KC_3003.out.c 2 rfl
                      have zC : u20.heap.size < u40.heap.size := KC_3003.out.2.2
                      have z2C : u20.heap.size < u40.heap.size + 1 := by omega
                      go_wp2_with fail
                      refine (narrow_any i1 t1 ck cz _ l _ HS.out).mono ?_
                      rintro e u41 ⟨vr, rfl, b41, hp1, hp2⟩
                      obtain ⟨er, her⟩ : ∃ er, nrE i1 t1 l ck cz = er := ⟨_, rfl⟩
                      rw [her] at hp1 hp2 ⊢
                      by_cases n0 : er = 0
                      · subst n0
                        obtain ⟨su, rfl, hs⟩ := hp1 rfl
                        clear hp1 hp2
                        have HER := Lib.hid her
                        clear her
                        have HD := Lib.hid hs
                        obtain ⟨da, dc, rfl, -⟩ := hs
                        have hln : (l ++ [(⟨ck, cz⟩ : Cv)]).length = l.length + 1 := by simp
                        rw [hln] at HD ⊢
                        clear hln
                        obtain ⟨T2, hT2⟩ : ∃ T2, tgN t1 ⟨ck, cz⟩ = T2 := ⟨_, rfl⟩
                        rw [hT2]
                        replace hT2 := Lib.hid hT2
                        replace HS := Lib.hid (HS.out.step b41)
                        replace HM := Lib.hid (HM.out.step b41)
                        replace HCI := Lib.hid (HCI.out.step b41)
                        clear xV0 xV1 zV z2V xC0 xC1 xC2 zC z2C
                        have KV_3006 := Lib.hid (KV_3001.out.step b41)
                        clear KV_3001
                        have KK_3007 := Lib.hid (KK_3002.out.step b41)
                        clear KK_3002
                        have KC_3008 := Lib.hid (KC_3003.out.step b41)
                        clear KC_3003
                        have KM_3009 := Lib.hid (KM_3004.out.step b41)
                        clear KM_3004
                        have HB3010 := Lib.hid (keep2 b41 HB3005.out)
                        clear HB3005 b41
                        replace HS := Lib.hid (HS.out.step (al u41 (.cells #[.int .i64 i1, .slice da (l.length + 1) dc, .int .i64 T2] 30)))
                        replace HM := Lib.hid (HM.out.step (al u41 (.cells #[.int .i64 i1, .slice da (l.length + 1) dc, .int .i64 T2] 30)))
                        replace HCI := Lib.hid (HCI.out.step (al u41 (.cells #[.int .i64 i1, .slice da (l.length + 1) dc, .int .i64 T2] 30)))
                        replace HD := Lib.hid (HD.out.step (al u41 (.cells #[.int .i64 i1, .slice da (l.length + 1) dc, .int .i64 T2] 30)))
                        have KV_3011 := Lib.hid (KV_3006.out.alloc (.cells #[.int .i64 i1, .slice da (l.length + 1) dc, .int .i64 T2] 30))
                        clear KV_3006
                        have KK_3012 := Lib.hid (KK_3007.out.alloc (.cells #[.int .i64 i1, .slice da (l.length + 1) dc, .int .i64 T2] 30))
                        clear KK_3007
                        have KC_3013 := Lib.hid (KC_3008.out.alloc (.cells #[.int .i64 i1, .slice da (l.length + 1) dc, .int .i64 T2] 30))
                        clear KC_3008
                        have KM_3014 := Lib.hid (KM_3009.out.alloc (.cells #[.int .i64 i1, .slice da (l.length + 1) dc, .int .i64 T2] 30))
                        clear KM_3009
                        have KD_3015 := Lib.hid (Cs.new u41 (u41.heap.size) #[.int .i64 i1, .slice da (l.length + 1) dc, .int .i64 T2] 30 (by simp))
                        have HB3016 : Hid (Below w.heap.size w (u41.alloc (.cells #[.int .i64 i1, .slice da (l.length + 1) dc, .int .i64 T2] 30))) := HB3010.out.alloc HB3010.out.size _
                        clear HB3010
                        have xK0 : (u41.alloc (.cells #[.int .i64 i1, .slice da (l.length + 1) dc, .int .i64 T2] 30)).cell? ⟨w.heap.size + 1, 0, none⟩ = some (.int .i64 r) := KK_3012.out.c 0 rfl
                        have xK1 : (u41.alloc (.cells #[.int .i64 i1, .slice da (l.length + 1) dc, .int .i64 T2] 30)).cell? ⟨w.heap.size + 1, 1, none⟩ = some (.int .i64 v) := KK_3012.out.c 1 rfl
                        have xK2 : (u41.alloc (.cells #[.int .i64 i1, .slice da (l.length + 1) dc, .int .i64 T2] 30)).cell? ⟨w.heap.size + 1, 2, none⟩ = some (.int .i64 x) := KK_3012.out.c 2 rfl
                        have xK3 : (u41.alloc (.cells #[.int .i64 i1, .slice da (l.length + 1) dc, .int .i64 T2] 30)).cell? ⟨w.heap.size + 1, 3, none⟩ = some (.int .i64 t) := KK_3012.out.c 3 rfl
                        have zK : w.heap.size + 1 < (u41.alloc (.cells #[.int .i64 i1, .slice da (l.length + 1) dc, .int .i64 T2] 30)).heap.size := KK_3012.out.2.2
                        have z2K : w.heap.size + 1 < (u41.alloc (.cells #[.int .i64 i1, .slice da (l.length + 1) dc, .int .i64 T2] 30)).heap.size + 1 := by omega
                        have xM0 : (u41.alloc (.cells #[.int .i64 i1, .slice da (l.length + 1) dc, .int .i64 T2] 30)).cell? ⟨u24.heap.size, 0, none⟩ = some (.slice ma M.length mc) := KM_3014.out.c 0 rfl
                        have zM : u24.heap.size < (u41.alloc (.cells #[.int .i64 i1, .slice da (l.length + 1) dc, .int .i64 T2] 30)).heap.size := KM_3014.out.2.2
                        have z2M : u24.heap.size < (u41.alloc (.cells #[.int .i64 i1, .slice da (l.length + 1) dc, .int .i64 T2] 30)).heap.size + 1 := by omega
                        have xD0 : (u41.alloc (.cells #[.int .i64 i1, .slice da (l.length + 1) dc, .int .i64 T2] 30)).cell? ⟨u41.heap.size, 0, none⟩ = some (.int .i64 i1) := KD_3015.out.c 0 rfl
                        have xD1 : (u41.alloc (.cells #[.int .i64 i1, .slice da (l.length + 1) dc, .int .i64 T2] 30)).cell? ⟨u41.heap.size, 1, none⟩ = some (.slice da (l.length + 1) dc) := KD_3015.out.c 1 rfl
                        have xD2 : (u41.alloc (.cells #[.int .i64 i1, .slice da (l.length + 1) dc, .int .i64 T2] 30)).cell? ⟨u41.heap.size, 2, none⟩ = some (.int .i64 T2) := KD_3015.out.c 2 rfl
                        have zD : u41.heap.size < (u41.alloc (.cells #[.int .i64 i1, .slice da (l.length + 1) dc, .int .i64 T2] 30)).heap.size := KD_3015.out.2.2
                        have z2D : u41.heap.size < (u41.alloc (.cells #[.int .i64 i1, .slice da (l.length + 1) dc, .int .i64 T2] 30)).heap.size + 1 := by omega
                        go_wp2_with fail
                        refine (chk_any key i1 T2 r v x t u _ _ M (l ++ [⟨ck, cz⟩]) _ HD.out HM.out.1).mono ?_
                        rintro e u42 ⟨rfl, b42⟩
                        obtain ⟨A, hA⟩ : ∃ A, ckR key M i1 T2 (l ++ [⟨ck, cz⟩]) r v x t u = A := ⟨_, rfl⟩
                        rw [hA]
                        have hag := tg_again (c := ⟨ck, cz⟩) (r := r) (v := v) (x := x) (t := t) (u := u) HG1.out SM.out HER.out
                        rw [hT2.out, hA, hE.out, hCH.out, ← HRV.out] at hag
                        have HAG := Lib.hid hag
                        clear hag hA
                        replace HS := Lib.hid (HS.out.step b42)
                        replace HM := Lib.hid (HM.out.step b42)
                        replace HCI := Lib.hid (HCI.out.step b42)
                        replace HD := Lib.hid (HD.out.step b42)
                        clear xK0 xK1 xK2 xK3 zK z2K xM0 zM z2M xD0 xD1 xD2 zD z2D
                        have KV_3017 := Lib.hid (KV_3011.out.step b42)
                        clear KV_3011
                        have KK_3018 := Lib.hid (KK_3012.out.step b42)
                        clear KK_3012
                        have KC_3019 := Lib.hid (KC_3013.out.step b42)
                        clear KC_3013
                        have KM_3020 := Lib.hid (KM_3014.out.step b42)
                        clear KM_3014
                        have KD_3021 := Lib.hid (KD_3015.out.step b42)
                        clear KD_3015
                        have HB3022 := Lib.hid (keep2 b42 HB3016.out)
                        clear HB3016 b42
                        have a0 : A ≠ 0 := fun q => E0 (HAG.out q).1
                        have a1 : (A != 0) = true := by simpa using a0
                        have a2 : (A == 0) = false := by simpa using a0
                        have a3 : decide (A = 0) = false := by simpa using a0
                        clear a0 E0
                        go_wp2
                        go_ret
                        exact ⟨rfl, HB3022.out⟩
                      · obtain rfl := hp2 n0
                        obtain rfl := tg_err her n0 l1.out
                        clear hp1 hp2 n0 her
                        replace HS := Lib.hid (HS.out.step b41)
                        replace HM := Lib.hid (HM.out.step b41)
                        replace HCI := Lib.hid (HCI.out.step b41)
                        clear xV0 xV1 zV z2V xC0 xC1 xC2 zC z2C
                        have KV_3006 := Lib.hid (KV_3001.out.step b41)
                        clear KV_3001
                        have KK_3007 := Lib.hid (KK_3002.out.step b41)
                        clear KK_3002
                        have KC_3008 := Lib.hid (KC_3003.out.step b41)
                        clear KC_3003
                        have KM_3009 := Lib.hid (KM_3004.out.step b41)
                        clear KM_3004
                        have HB3010 := Lib.hid (keep2 b41 HB3005.out)
                        clear HB3005 b41
                        replace HS := Lib.hid (HS.out.step (al u41 (.cells #[.int .i64 0, .slice none 0 0, .int .i64 0] 30)))
                        replace HM := Lib.hid (HM.out.step (al u41 (.cells #[.int .i64 0, .slice none 0 0, .int .i64 0] 30)))
                        replace HCI := Lib.hid (HCI.out.step (al u41 (.cells #[.int .i64 0, .slice none 0 0, .int .i64 0] 30)))
                        have KV_3011 := Lib.hid (KV_3006.out.alloc (.cells #[.int .i64 0, .slice none 0 0, .int .i64 0] 30))
                        clear KV_3006
                        have KK_3012 := Lib.hid (KK_3007.out.alloc (.cells #[.int .i64 0, .slice none 0 0, .int .i64 0] 30))
                        clear KK_3007
                        have KC_3013 := Lib.hid (KC_3008.out.alloc (.cells #[.int .i64 0, .slice none 0 0, .int .i64 0] 30))
                        clear KC_3008
                        have KM_3014 := Lib.hid (KM_3009.out.alloc (.cells #[.int .i64 0, .slice none 0 0, .int .i64 0] 30))
                        clear KM_3009
                        have HB3015 : Hid (Below w.heap.size w (u41.alloc (.cells #[.int .i64 0, .slice none 0 0, .int .i64 0] 30))) := HB3010.out.alloc HB3010.out.size _
                        clear HB3010
                        go_wp2
                        go_ret
                        exact ⟨rfl, HB3015.out⟩
                  skip
                  · cases rb
                    · obtain rfl : E = 0 := HGOT.out.2 ⟨rfl, rfl⟩
                      clear HGOT
                      have xV0 : u40.cell? ⟨w.heap.size, 0, none⟩ = some (.int .i64 ck) := KV_3001.out.c 0 rfl
                      have xV1 : u40.cell? ⟨w.heap.size, 1, none⟩ = some (.int .i64 cz) := KV_3001.out.c 1 rfl
                      have zV : w.heap.size < u40.heap.size := KV_3001.out.2.2
                      have z2V : w.heap.size < u40.heap.size + 1 := by omega
                      have xC0 : u40.cell? ⟨u20.heap.size, 0, none⟩ = some (.int .i64 i1) := KC_3003.out.c 0 rfl
                      have xC1 : u40.cell? ⟨u20.heap.size, 1, none⟩ = some (.slice sa l.length sc) := KC_3003.out.c 1 rfl
                      have xC2 : u40.cell? ⟨u20.heap.size, 2, none⟩ = some (.int .i64 t1) := KC_3003.out.c 2 rfl
                      have zC : u20.heap.size < u40.heap.size := KC_3003.out.2.2
                      have z2C : u20.heap.size < u40.heap.size + 1 := by omega
                      go_wp2_with fail
                      refine (narrow_any i1 t1 ck cz _ l _ HS.out).mono ?_
                      rintro e u41 ⟨vr, rfl, b41, hp1, hp2⟩
                      obtain ⟨er, her⟩ : ∃ er, nrE i1 t1 l ck cz = er := ⟨_, rfl⟩
                      rw [her] at hp1 hp2 ⊢
                      by_cases n0 : er = 0
                      · subst n0
                        obtain ⟨su, rfl, hs⟩ := hp1 rfl
                        clear hp1 hp2
                        have HER := Lib.hid her
                        clear her
                        have HD := Lib.hid hs
                        obtain ⟨da, dc, rfl, -⟩ := hs
                        have hln : (l ++ [(⟨ck, cz⟩ : Cv)]).length = l.length + 1 := by simp
                        rw [hln] at HD ⊢
                        clear hln
                        obtain ⟨T2, hT2⟩ : ∃ T2, tgN t1 ⟨ck, cz⟩ = T2 := ⟨_, rfl⟩
                        rw [hT2]
                        replace hT2 := Lib.hid hT2
                        replace HS := Lib.hid (HS.out.step b41)
                        replace HM := Lib.hid (HM.out.step b41)
                        replace HCI := Lib.hid (HCI.out.step b41)
                        clear xV0 xV1 zV z2V xC0 xC1 xC2 zC z2C
                        have KV_3006 := Lib.hid (KV_3001.out.step b41)
                        clear KV_3001
                        have KK_3007 := Lib.hid (KK_3002.out.step b41)
                        clear KK_3002
                        have KC_3008 := Lib.hid (KC_3003.out.step b41)
                        clear KC_3003
                        have KM_3009 := Lib.hid (KM_3004.out.step b41)
                        clear KM_3004
                        have HB3010 := Lib.hid (keep2 b41 HB3005.out)
                        clear HB3005 b41
                        replace HS := Lib.hid (HS.out.step (al u41 (.cells #[.int .i64 i1, .slice da (l.length + 1) dc, .int .i64 T2] 30)))
                        replace HM := Lib.hid (HM.out.step (al u41 (.cells #[.int .i64 i1, .slice da (l.length + 1) dc, .int .i64 T2] 30)))
                        replace HCI := Lib.hid (HCI.out.step (al u41 (.cells #[.int .i64 i1, .slice da (l.length + 1) dc, .int .i64 T2] 30)))
                        replace HD := Lib.hid (HD.out.step (al u41 (.cells #[.int .i64 i1, .slice da (l.length + 1) dc, .int .i64 T2] 30)))
                        have KV_3011 := Lib.hid (KV_3006.out.alloc (.cells #[.int .i64 i1, .slice da (l.length + 1) dc, .int .i64 T2] 30))
                        clear KV_3006
                        have KK_3012 := Lib.hid (KK_3007.out.alloc (.cells #[.int .i64 i1, .slice da (l.length + 1) dc, .int .i64 T2] 30))
                        clear KK_3007
                        have KC_3013 := Lib.hid (KC_3008.out.alloc (.cells #[.int .i64 i1, .slice da (l.length + 1) dc, .int .i64 T2] 30))
                        clear KC_3008
                        have KM_3014 := Lib.hid (KM_3009.out.alloc (.cells #[.int .i64 i1, .slice da (l.length + 1) dc, .int .i64 T2] 30))
                        clear KM_3009
                        have KD_3015 := Lib.hid (Cs.new u41 (u41.heap.size) #[.int .i64 i1, .slice da (l.length + 1) dc, .int .i64 T2] 30 (by simp))
                        have HB3016 : Hid (Below w.heap.size w (u41.alloc (.cells #[.int .i64 i1, .slice da (l.length + 1) dc, .int .i64 T2] 30))) := HB3010.out.alloc HB3010.out.size _
                        clear HB3010
                        have xK0 : (u41.alloc (.cells #[.int .i64 i1, .slice da (l.length + 1) dc, .int .i64 T2] 30)).cell? ⟨w.heap.size + 1, 0, none⟩ = some (.int .i64 r) := KK_3012.out.c 0 rfl
                        have xK1 : (u41.alloc (.cells #[.int .i64 i1, .slice da (l.length + 1) dc, .int .i64 T2] 30)).cell? ⟨w.heap.size + 1, 1, none⟩ = some (.int .i64 v) := KK_3012.out.c 1 rfl
                        have xK2 : (u41.alloc (.cells #[.int .i64 i1, .slice da (l.length + 1) dc, .int .i64 T2] 30)).cell? ⟨w.heap.size + 1, 2, none⟩ = some (.int .i64 x) := KK_3012.out.c 2 rfl
                        have xK3 : (u41.alloc (.cells #[.int .i64 i1, .slice da (l.length + 1) dc, .int .i64 T2] 30)).cell? ⟨w.heap.size + 1, 3, none⟩ = some (.int .i64 t) := KK_3012.out.c 3 rfl
                        have zK : w.heap.size + 1 < (u41.alloc (.cells #[.int .i64 i1, .slice da (l.length + 1) dc, .int .i64 T2] 30)).heap.size := KK_3012.out.2.2
                        have z2K : w.heap.size + 1 < (u41.alloc (.cells #[.int .i64 i1, .slice da (l.length + 1) dc, .int .i64 T2] 30)).heap.size + 1 := by omega
                        have xM0 : (u41.alloc (.cells #[.int .i64 i1, .slice da (l.length + 1) dc, .int .i64 T2] 30)).cell? ⟨u24.heap.size, 0, none⟩ = some (.slice ma M.length mc) := KM_3014.out.c 0 rfl
                        have zM : u24.heap.size < (u41.alloc (.cells #[.int .i64 i1, .slice da (l.length + 1) dc, .int .i64 T2] 30)).heap.size := KM_3014.out.2.2
                        have z2M : u24.heap.size < (u41.alloc (.cells #[.int .i64 i1, .slice da (l.length + 1) dc, .int .i64 T2] 30)).heap.size + 1 := by omega
                        have xD0 : (u41.alloc (.cells #[.int .i64 i1, .slice da (l.length + 1) dc, .int .i64 T2] 30)).cell? ⟨u41.heap.size, 0, none⟩ = some (.int .i64 i1) := KD_3015.out.c 0 rfl
                        have xD1 : (u41.alloc (.cells #[.int .i64 i1, .slice da (l.length + 1) dc, .int .i64 T2] 30)).cell? ⟨u41.heap.size, 1, none⟩ = some (.slice da (l.length + 1) dc) := KD_3015.out.c 1 rfl
                        have xD2 : (u41.alloc (.cells #[.int .i64 i1, .slice da (l.length + 1) dc, .int .i64 T2] 30)).cell? ⟨u41.heap.size, 2, none⟩ = some (.int .i64 T2) := KD_3015.out.c 2 rfl
                        have zD : u41.heap.size < (u41.alloc (.cells #[.int .i64 i1, .slice da (l.length + 1) dc, .int .i64 T2] 30)).heap.size := KD_3015.out.2.2
                        have z2D : u41.heap.size < (u41.alloc (.cells #[.int .i64 i1, .slice da (l.length + 1) dc, .int .i64 T2] 30)).heap.size + 1 := by omega
                        go_wp2_with fail
                        refine (chk_any key i1 T2 r v x t u _ _ M (l ++ [⟨ck, cz⟩]) _ HD.out HM.out.1).mono ?_
                        rintro e u42 ⟨rfl, b42⟩
                        obtain ⟨A, hA⟩ : ∃ A, ckR key M i1 T2 (l ++ [⟨ck, cz⟩]) r v x t u = A := ⟨_, rfl⟩
                        rw [hA]
                        have hag := tg_again (c := ⟨ck, cz⟩) (r := r) (v := v) (x := x) (t := t) (u := u) HG1.out SM.out HER.out
                        rw [hT2.out, hA, hE.out, hCH.out, ← HRV.out] at hag
                        have HAG := Lib.hid hag
                        clear hag hA
                        replace HS := Lib.hid (HS.out.step b42)
                        replace HM := Lib.hid (HM.out.step b42)
                        replace HCI := Lib.hid (HCI.out.step b42)
                        replace HD := Lib.hid (HD.out.step b42)
                        clear xK0 xK1 xK2 xK3 zK z2K xM0 zM z2M xD0 xD1 xD2 zD z2D
                        have KV_3017 := Lib.hid (KV_3011.out.step b42)
                        clear KV_3011
                        have KK_3018 := Lib.hid (KK_3012.out.step b42)
                        clear KK_3012
                        have KC_3019 := Lib.hid (KC_3013.out.step b42)
                        clear KC_3013
                        have KM_3020 := Lib.hid (KM_3014.out.step b42)
                        clear KM_3014
                        have KD_3021 := Lib.hid (KD_3015.out.step b42)
                        clear KD_3015
                        have HB3022 := Lib.hid (keep2 b42 HB3016.out)
                        clear HB3016 b42
                        by_cases a0 : A = 0
                        · subst a0
                          obtain ⟨-, hpv, -⟩ := HAG.out rfl
                          have HPV := Lib.hid hpv
                          clear hpv
                          have xV0 : u42.cell? ⟨w.heap.size, 0, none⟩ = some (.int .i64 ck) := KV_3017.out.c 0 rfl
                          have xV1 : u42.cell? ⟨w.heap.size, 1, none⟩ = some (.int .i64 cz) := KV_3017.out.c 1 rfl
                          have zV : w.heap.size < u42.heap.size := KV_3017.out.2.2
                          have z2V : w.heap.size < u42.heap.size + 1 := by omega
                          have xK0 : u42.cell? ⟨w.heap.size + 1, 0, none⟩ = some (.int .i64 r) := KK_3018.out.c 0 rfl
                          have xK1 : u42.cell? ⟨w.heap.size + 1, 1, none⟩ = some (.int .i64 v) := KK_3018.out.c 1 rfl
                          have xK2 : u42.cell? ⟨w.heap.size + 1, 2, none⟩ = some (.int .i64 x) := KK_3018.out.c 2 rfl
                          have xK3 : u42.cell? ⟨w.heap.size + 1, 3, none⟩ = some (.int .i64 t) := KK_3018.out.c 3 rfl
                          have zK : w.heap.size + 1 < u42.heap.size := KK_3018.out.2.2
                          have z2K : w.heap.size + 1 < u42.heap.size + 1 := by omega
                          go_wp2_with fail
                          replace HS := Lib.hid (HS.out.step (al u42 (.cells #[.int .i64 ck, .int .i64 cz] 24)))
                          replace HM := Lib.hid (HM.out.step (al u42 (.cells #[.int .i64 ck, .int .i64 cz] 24)))
                          replace HCI := Lib.hid (HCI.out.step (al u42 (.cells #[.int .i64 ck, .int .i64 cz] 24)))
                          replace HD := Lib.hid (HD.out.step (al u42 (.cells #[.int .i64 ck, .int .i64 cz] 24)))
                          have KV_3023 := Lib.hid (KV_3017.out.alloc (.cells #[.int .i64 ck, .int .i64 cz] 24))
                          clear KV_3017
                          have KK_3024 := Lib.hid (KK_3018.out.alloc (.cells #[.int .i64 ck, .int .i64 cz] 24))
                          clear KK_3018
                          have KC_3025 := Lib.hid (KC_3019.out.alloc (.cells #[.int .i64 ck, .int .i64 cz] 24))
                          clear KC_3019
                          have KM_3026 := Lib.hid (KM_3020.out.alloc (.cells #[.int .i64 ck, .int .i64 cz] 24))
                          clear KM_3020
                          have KD_3027 := Lib.hid (KD_3021.out.alloc (.cells #[.int .i64 ck, .int .i64 cz] 24))
                          clear KD_3021
                          have HB3028 : Hid (Below w.heap.size w (u42.alloc (.cells #[.int .i64 ck, .int .i64 cz] 24))) := HB3022.out.alloc HB3022.out.size _
                          clear HB3022
                          refine (permits_any 0 0 r v x t u _ [⟨ck, cz⟩] _ (cv_one u42 ck cz u42.heap.size rfl)).mono ?_
                          rintro e u43 ⟨rfl, b43⟩
                          rw [HPV.out]
                          replace HS := Lib.hid (HS.out.step b43)
                          replace HM := Lib.hid (HM.out.step b43)
                          replace HCI := Lib.hid (HCI.out.step b43)
                          replace HD := Lib.hid (HD.out.step b43)
                          clear xV0 xV1 zV z2V xK0 xK1 xK2 xK3 zK z2K
                          have KV_3029 := Lib.hid (KV_3023.out.step b43)
                          clear KV_3023
                          have KK_3030 := Lib.hid (KK_3024.out.step b43)
                          clear KK_3024
                          have KC_3031 := Lib.hid (KC_3025.out.step b43)
                          clear KC_3025
                          have KM_3032 := Lib.hid (KM_3026.out.step b43)
                          clear KM_3026
                          have KD_3033 := Lib.hid (KD_3027.out.step b43)
                          clear KD_3027
                          have HB3034 := Lib.hid (keep2 b43 HB3028.out)
                          clear HB3028 b43
                          go_wp2
                          go_ret
                          exact ⟨rfl, HB3034.out⟩
                        · have a1 : (A != 0) = true := by simpa using a0
                          have a2 : (A == 0) = false := by simpa using a0
                          have a3 : decide (A = 0) = false := by simpa using a0
                          clear a0
                          go_wp2
                          go_ret
                          exact ⟨rfl, HB3022.out⟩
                      · obtain rfl := hp2 n0
                        obtain rfl := tg_err her n0 l1.out
                        clear hp1 hp2 n0 her
                        replace HS := Lib.hid (HS.out.step b41)
                        replace HM := Lib.hid (HM.out.step b41)
                        replace HCI := Lib.hid (HCI.out.step b41)
                        clear xV0 xV1 zV z2V xC0 xC1 xC2 zC z2C
                        have KV_3006 := Lib.hid (KV_3001.out.step b41)
                        clear KV_3001
                        have KK_3007 := Lib.hid (KK_3002.out.step b41)
                        clear KK_3002
                        have KC_3008 := Lib.hid (KC_3003.out.step b41)
                        clear KC_3003
                        have KM_3009 := Lib.hid (KM_3004.out.step b41)
                        clear KM_3004
                        have HB3010 := Lib.hid (keep2 b41 HB3005.out)
                        clear HB3005 b41
                        replace HS := Lib.hid (HS.out.step (al u41 (.cells #[.int .i64 0, .slice none 0 0, .int .i64 0] 30)))
                        replace HM := Lib.hid (HM.out.step (al u41 (.cells #[.int .i64 0, .slice none 0 0, .int .i64 0] 30)))
                        replace HCI := Lib.hid (HCI.out.step (al u41 (.cells #[.int .i64 0, .slice none 0 0, .int .i64 0] 30)))
                        have KV_3011 := Lib.hid (KV_3006.out.alloc (.cells #[.int .i64 0, .slice none 0 0, .int .i64 0] 30))
                        clear KV_3006
                        have KK_3012 := Lib.hid (KK_3007.out.alloc (.cells #[.int .i64 0, .slice none 0 0, .int .i64 0] 30))
                        clear KK_3007
                        have KC_3013 := Lib.hid (KC_3008.out.alloc (.cells #[.int .i64 0, .slice none 0 0, .int .i64 0] 30))
                        clear KC_3008
                        have KM_3014 := Lib.hid (KM_3009.out.alloc (.cells #[.int .i64 0, .slice none 0 0, .int .i64 0] 30))
                        clear KM_3009
                        have HB3015 : Hid (Below w.heap.size w (u41.alloc (.cells #[.int .i64 0, .slice none 0 0, .int .i64 0] 30))) := HB3010.out.alloc HB3010.out.size _
                        clear HB3010
                        go_wp2
                        go_ret
                        exact ⟨rfl, HB3015.out⟩
                    · have E0 : E ≠ 0 := fun q => by have h := HGOT.out.1 q; simp at h
                      have E1 : (E == 0) = false := by simpa using E0
                      have E2 : decide (E = 0) = false := by simpa using E0
                      clear HGOT
                      have xV0 : u40.cell? ⟨w.heap.size, 0, none⟩ = some (.int .i64 ck) := KV_3001.out.c 0 rfl
                      have xV1 : u40.cell? ⟨w.heap.size, 1, none⟩ = some (.int .i64 cz) := KV_3001.out.c 1 rfl
                      have zV : w.heap.size < u40.heap.size := KV_3001.out.2.2
                      have z2V : w.heap.size < u40.heap.size + 1 := by omega
                      have xC0 : u40.cell? ⟨u20.heap.size, 0, none⟩ = some (.int .i64 i1) := KC_3003.out.c 0 rfl
                      have xC1 : u40.cell? ⟨u20.heap.size, 1, none⟩ = some (.slice sa l.length sc) := KC_3003.out.c 1 rfl
                      have xC2 : u40.cell? ⟨u20.heap.size, 2, none⟩ = some (.int .i64 t1) := KC_3003.out.c 2 rfl
                      have zC : u20.heap.size < u40.heap.size := KC_3003.out.2.2
                      have z2C : u20.heap.size < u40.heap.size + 1 := by omega
                      go_wp2_with fail
                      refine (narrow_any i1 t1 ck cz _ l _ HS.out).mono ?_
                      rintro e u41 ⟨vr, rfl, b41, hp1, hp2⟩
                      obtain ⟨er, her⟩ : ∃ er, nrE i1 t1 l ck cz = er := ⟨_, rfl⟩
                      rw [her] at hp1 hp2 ⊢
                      by_cases n0 : er = 0
                      · subst n0
                        obtain ⟨su, rfl, hs⟩ := hp1 rfl
                        clear hp1 hp2
                        have HER := Lib.hid her
                        clear her
                        have HD := Lib.hid hs
                        obtain ⟨da, dc, rfl, -⟩ := hs
                        have hln : (l ++ [(⟨ck, cz⟩ : Cv)]).length = l.length + 1 := by simp
                        rw [hln] at HD ⊢
                        clear hln
                        obtain ⟨T2, hT2⟩ : ∃ T2, tgN t1 ⟨ck, cz⟩ = T2 := ⟨_, rfl⟩
                        rw [hT2]
                        replace hT2 := Lib.hid hT2
                        replace HS := Lib.hid (HS.out.step b41)
                        replace HM := Lib.hid (HM.out.step b41)
                        replace HCI := Lib.hid (HCI.out.step b41)
                        clear xV0 xV1 zV z2V xC0 xC1 xC2 zC z2C
                        have KV_3006 := Lib.hid (KV_3001.out.step b41)
                        clear KV_3001
                        have KK_3007 := Lib.hid (KK_3002.out.step b41)
                        clear KK_3002
                        have KC_3008 := Lib.hid (KC_3003.out.step b41)
                        clear KC_3003
                        have KM_3009 := Lib.hid (KM_3004.out.step b41)
                        clear KM_3004
                        have HB3010 := Lib.hid (keep2 b41 HB3005.out)
                        clear HB3005 b41
                        replace HS := Lib.hid (HS.out.step (al u41 (.cells #[.int .i64 i1, .slice da (l.length + 1) dc, .int .i64 T2] 30)))
                        replace HM := Lib.hid (HM.out.step (al u41 (.cells #[.int .i64 i1, .slice da (l.length + 1) dc, .int .i64 T2] 30)))
                        replace HCI := Lib.hid (HCI.out.step (al u41 (.cells #[.int .i64 i1, .slice da (l.length + 1) dc, .int .i64 T2] 30)))
                        replace HD := Lib.hid (HD.out.step (al u41 (.cells #[.int .i64 i1, .slice da (l.length + 1) dc, .int .i64 T2] 30)))
                        have KV_3011 := Lib.hid (KV_3006.out.alloc (.cells #[.int .i64 i1, .slice da (l.length + 1) dc, .int .i64 T2] 30))
                        clear KV_3006
                        have KK_3012 := Lib.hid (KK_3007.out.alloc (.cells #[.int .i64 i1, .slice da (l.length + 1) dc, .int .i64 T2] 30))
                        clear KK_3007
                        have KC_3013 := Lib.hid (KC_3008.out.alloc (.cells #[.int .i64 i1, .slice da (l.length + 1) dc, .int .i64 T2] 30))
                        clear KC_3008
                        have KM_3014 := Lib.hid (KM_3009.out.alloc (.cells #[.int .i64 i1, .slice da (l.length + 1) dc, .int .i64 T2] 30))
                        clear KM_3009
                        have KD_3015 := Lib.hid (Cs.new u41 (u41.heap.size) #[.int .i64 i1, .slice da (l.length + 1) dc, .int .i64 T2] 30 (by simp))
                        have HB3016 : Hid (Below w.heap.size w (u41.alloc (.cells #[.int .i64 i1, .slice da (l.length + 1) dc, .int .i64 T2] 30))) := HB3010.out.alloc HB3010.out.size _
                        clear HB3010
                        have xK0 : (u41.alloc (.cells #[.int .i64 i1, .slice da (l.length + 1) dc, .int .i64 T2] 30)).cell? ⟨w.heap.size + 1, 0, none⟩ = some (.int .i64 r) := KK_3012.out.c 0 rfl
                        have xK1 : (u41.alloc (.cells #[.int .i64 i1, .slice da (l.length + 1) dc, .int .i64 T2] 30)).cell? ⟨w.heap.size + 1, 1, none⟩ = some (.int .i64 v) := KK_3012.out.c 1 rfl
                        have xK2 : (u41.alloc (.cells #[.int .i64 i1, .slice da (l.length + 1) dc, .int .i64 T2] 30)).cell? ⟨w.heap.size + 1, 2, none⟩ = some (.int .i64 x) := KK_3012.out.c 2 rfl
                        have xK3 : (u41.alloc (.cells #[.int .i64 i1, .slice da (l.length + 1) dc, .int .i64 T2] 30)).cell? ⟨w.heap.size + 1, 3, none⟩ = some (.int .i64 t) := KK_3012.out.c 3 rfl
                        have zK : w.heap.size + 1 < (u41.alloc (.cells #[.int .i64 i1, .slice da (l.length + 1) dc, .int .i64 T2] 30)).heap.size := KK_3012.out.2.2
                        have z2K : w.heap.size + 1 < (u41.alloc (.cells #[.int .i64 i1, .slice da (l.length + 1) dc, .int .i64 T2] 30)).heap.size + 1 := by omega
                        have xM0 : (u41.alloc (.cells #[.int .i64 i1, .slice da (l.length + 1) dc, .int .i64 T2] 30)).cell? ⟨u24.heap.size, 0, none⟩ = some (.slice ma M.length mc) := KM_3014.out.c 0 rfl
                        have zM : u24.heap.size < (u41.alloc (.cells #[.int .i64 i1, .slice da (l.length + 1) dc, .int .i64 T2] 30)).heap.size := KM_3014.out.2.2
                        have z2M : u24.heap.size < (u41.alloc (.cells #[.int .i64 i1, .slice da (l.length + 1) dc, .int .i64 T2] 30)).heap.size + 1 := by omega
                        have xD0 : (u41.alloc (.cells #[.int .i64 i1, .slice da (l.length + 1) dc, .int .i64 T2] 30)).cell? ⟨u41.heap.size, 0, none⟩ = some (.int .i64 i1) := KD_3015.out.c 0 rfl
                        have xD1 : (u41.alloc (.cells #[.int .i64 i1, .slice da (l.length + 1) dc, .int .i64 T2] 30)).cell? ⟨u41.heap.size, 1, none⟩ = some (.slice da (l.length + 1) dc) := KD_3015.out.c 1 rfl
                        have xD2 : (u41.alloc (.cells #[.int .i64 i1, .slice da (l.length + 1) dc, .int .i64 T2] 30)).cell? ⟨u41.heap.size, 2, none⟩ = some (.int .i64 T2) := KD_3015.out.c 2 rfl
                        have zD : u41.heap.size < (u41.alloc (.cells #[.int .i64 i1, .slice da (l.length + 1) dc, .int .i64 T2] 30)).heap.size := KD_3015.out.2.2
                        have z2D : u41.heap.size < (u41.alloc (.cells #[.int .i64 i1, .slice da (l.length + 1) dc, .int .i64 T2] 30)).heap.size + 1 := by omega
                        go_wp2_with fail
                        refine (chk_any key i1 T2 r v x t u _ _ M (l ++ [⟨ck, cz⟩]) _ HD.out HM.out.1).mono ?_
                        rintro e u42 ⟨rfl, b42⟩
                        obtain ⟨A, hA⟩ : ∃ A, ckR key M i1 T2 (l ++ [⟨ck, cz⟩]) r v x t u = A := ⟨_, rfl⟩
                        rw [hA]
                        have hag := tg_again (c := ⟨ck, cz⟩) (r := r) (v := v) (x := x) (t := t) (u := u) HG1.out SM.out HER.out
                        rw [hT2.out, hA, hE.out, hCH.out, ← HRV.out] at hag
                        have HAG := Lib.hid hag
                        clear hag hA
                        replace HS := Lib.hid (HS.out.step b42)
                        replace HM := Lib.hid (HM.out.step b42)
                        replace HCI := Lib.hid (HCI.out.step b42)
                        replace HD := Lib.hid (HD.out.step b42)
                        clear xK0 xK1 xK2 xK3 zK z2K xM0 zM z2M xD0 xD1 xD2 zD z2D
                        have KV_3017 := Lib.hid (KV_3011.out.step b42)
                        clear KV_3011
                        have KK_3018 := Lib.hid (KK_3012.out.step b42)
                        clear KK_3012
                        have KC_3019 := Lib.hid (KC_3013.out.step b42)
                        clear KC_3013
                        have KM_3020 := Lib.hid (KM_3014.out.step b42)
                        clear KM_3014
                        have KD_3021 := Lib.hid (KD_3015.out.step b42)
                        clear KD_3015
                        have HB3022 := Lib.hid (keep2 b42 HB3016.out)
                        clear HB3016 b42
                        have a0 : A ≠ 0 := fun q => E0 (HAG.out q).1
                        have a1 : (A != 0) = true := by simpa using a0
                        have a2 : (A == 0) = false := by simpa using a0
                        have a3 : decide (A = 0) = false := by simpa using a0
                        clear a0 E0
                        go_wp2
                        go_ret
                        exact ⟨rfl, HB3022.out⟩
                      · obtain rfl := hp2 n0
                        obtain rfl := tg_err her n0 l1.out
                        clear hp1 hp2 n0 her
                        replace HS := Lib.hid (HS.out.step b41)
                        replace HM := Lib.hid (HM.out.step b41)
                        replace HCI := Lib.hid (HCI.out.step b41)
                        clear xV0 xV1 zV z2V xC0 xC1 xC2 zC z2C
                        have KV_3006 := Lib.hid (KV_3001.out.step b41)
                        clear KV_3001
                        have KK_3007 := Lib.hid (KK_3002.out.step b41)
                        clear KK_3002
                        have KC_3008 := Lib.hid (KC_3003.out.step b41)
                        clear KC_3003
                        have KM_3009 := Lib.hid (KM_3004.out.step b41)
                        clear KM_3004
                        have HB3010 := Lib.hid (keep2 b41 HB3005.out)
                        clear HB3005 b41
                        replace HS := Lib.hid (HS.out.step (al u41 (.cells #[.int .i64 0, .slice none 0 0, .int .i64 0] 30)))
                        replace HM := Lib.hid (HM.out.step (al u41 (.cells #[.int .i64 0, .slice none 0 0, .int .i64 0] 30)))
                        replace HCI := Lib.hid (HCI.out.step (al u41 (.cells #[.int .i64 0, .slice none 0 0, .int .i64 0] 30)))
                        have KV_3011 := Lib.hid (KV_3006.out.alloc (.cells #[.int .i64 0, .slice none 0 0, .int .i64 0] 30))
                        clear KV_3006
                        have KK_3012 := Lib.hid (KK_3007.out.alloc (.cells #[.int .i64 0, .slice none 0 0, .int .i64 0] 30))
                        clear KK_3007
                        have KC_3013 := Lib.hid (KC_3008.out.alloc (.cells #[.int .i64 0, .slice none 0 0, .int .i64 0] 30))
                        clear KC_3008
                        have KM_3014 := Lib.hid (KM_3009.out.alloc (.cells #[.int .i64 0, .slice none 0 0, .int .i64 0] 30))
                        clear KM_3009
                        have HB3015 : Hid (Below w.heap.size w (u41.alloc (.cells #[.int .i64 0, .slice none 0 0, .int .i64 0] 30))) := HB3010.out.alloc HB3010.out.size _
                        clear HB3010
                        go_wp2
                        go_ret
                        exact ⟨rfl, HB3015.out⟩
theorem top_any (key id : Int) (vl : Value) (l : List Cv) (ck cz r v x t u : Int) (v1 : Value) (one : List Int) (v2 : Value) (two : List Int) (w : World) (h : CvsAt w vl l) (h1 : TgAt w v1 one) (h2 : TgAt w v2 two) : Calls Try.prog 3 #[.int .i64 key, .int .i64 id, vl, .agg #[.int .i64 ck, .int .i64 cz], .agg #[.int .i64 r, .int .i64 v, .int .i64 x, .int .i64 t], .int .i64 u, v1, v2] w fun e w' => e = .returned (.bool true) ∧ Below w.heap.size w w' := by
  by_cases l1 : l.length ≤ 11
  · by_cases l2 : one.length ≤ 20
    · by_cases l3 : two.length ≤ 20
      · exact top_ok key id vl l ck cz r v x t u v1 one v2 two w h h1 h2 l1 l2 l3
      · exact top_c key id vl l ck cz r v x t u v1 one v2 two w h h1 h2 l1 l2 (by omega)
    · exact top_b key id vl l ck cz r v x t u v1 one v2 two w h h1 h2 l1 (by omega)
  · exact top_a key id vl l ck cz r v x t u v1 one v2 two w h h1 h2 (by omega)
end Go.Proofs.Ytoaleijfpocdjaa
