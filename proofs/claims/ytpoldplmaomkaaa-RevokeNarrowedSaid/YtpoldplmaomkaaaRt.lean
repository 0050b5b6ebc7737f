/- Sets of tags: law RevokeNarrowed. -/
import Derived.Test.YtpoldplmaomkaaaRo
namespace Go.Proofs.Ytpoldplmaomkaaa
open Go.RowKit

theorem ckV_ne (key id tag : Int) (l : List Cv) (r v x t u : Int) : ckV key id tag l r v x t u ≠ 21 := by
  have h1 : ∀ (k z : Int), ckE r v t u k z ≠ 21 := fun k z => by
    unfold ckE unl
    split
    · split <;> decide
    · split
      · split <;> decide
      · split
        · split <;> decide
        · split
          · split <;> decide
          · split <;> decide
  have h2 : ∀ l : List Cv, prL r v t u l ≠ 21 := fun l => by
    induction l with
    | nil => unfold prL; decide
    | cons c l ih =>
      unfold prL
      split
      · exact ih
      · exact h1 _ _
  unfold ckV
  split
  · split
    · unfold pmE
      split
      · exact h2 _
      · decide
    · decide
  · decide
theorem add_zero {m : List Int} {x : Int} (h : mgE m [x] = 0) : (stB m = true ∧ tgB x = true) ∧ mgL m [x] = mg m [x] ∧ stB (mg m [x]) = true := by
  have h1 : stB m = true := by
    cases hm : stB m
    · unfold mgE at h; simp [hm] at h
    · rfl
  have h2 : tgB x = true := by
    cases hx : tgB x
    · unfold mgE at h; simp [st_one, hx] at h
    · rfl
  have hl : (mg m [x]).length ≤ 400 := by
    apply Classical.byContradiction; intro hn
    unfold mgE at h; simp [st_one, h2, h1, hn] at h
  exact ⟨⟨h1, h2⟩, by unfold mgL; rw [h]; rfl, mg_st h1 (by rw [st_one]; exact h2) hl⟩
theorem sls_one (W : World) (a : Option Addr) (n c : Nat) (b : Nat) (hb : b = W.heap.size) : SlsAt (W.alloc (.cells #[.slice a n c] 24)) (.slice (some ⟨b, 0, none⟩) 1 1) [(a, n, c)] := by
  refine ⟨b, 1, rfl, fun i t hi => ?_⟩
  rcases i with _ | i
  · cases hi; exact (Cs.new W b #[.slice a n c] 24 hb).c 0 rfl
  · cases hi
theorem capB_parts {id tag : Int} {l : List Cv} : capB id tag l = true ↔ (0 ≤ id ∧ id ≤ 1000000) ∧ (0 ≤ tag ∧ tag ≤ 2147483646) ∧ l.length ≤ 12 ∧ l.any bad = false := by
  unfold capB
  simp only [Bool.and_eq_true, inr_iff, decide_eq_true_iff, Bool.not_eq_true']
theorem tk_app (t0 : Int) (l m : List Cv) : ∀ j, j ≤ l.length → tk t0 (l ++ m) j = tk t0 l j
  | 0, _ => rfl
  | j + 1, h => by
    unfold tk
    rw [tk_app t0 l m j (by omega)]
    congr 1
    simp [List.getD, List.getElem?_append, show j < l.length by omega]
theorem tk_end (t0 : Int) (l : List Cv) (c : Cv) : tk t0 (l ++ [c]) (l ++ [c]).length = tgN (tk t0 l l.length) c := by
  rw [show (l ++ [c]).length = l.length + 1 by simp]
  show tgN (tk t0 (l ++ [c]) l.length) ((l ++ [c]).getD l.length zC) = _
  rw [tk_app t0 l [c] _ (Nat.le_refl _)]
  congr 1
  simp
theorem prL_ne1 {r v t u : Int} : ∀ (l : List Cv), prL r v t u l ≠ 1 := by
  have h : ∀ (b : Bool) (e : Int), e ≠ 1 → unl b e ≠ 1 := fun b e he => by cases b <;> simp [unl, he]
  have h1 : ∀ k z : Int, ckE r v t u k z ≠ 1 := fun k z => by
    unfold ckE
    split
    · exact h _ _ (by omega)
    · split
      · exact h _ _ (by omega)
      · split
        · exact h _ _ (by omega)
        · split
          · exact h _ _ (by omega)
          · exact h _ _ (by omega)
  intro l
  induction l with
  | nil => simp [prL]
  | cons c l ih =>
    unfold prL
    split
    · exact ih
    · exact h1 _ _
theorem gn_parts {key id tag : Int} {l : List Cv} (h : gnB key id tag l = true) : inr key 0 2147483646 = true ∧ capB id tag l = true ∧ tk (tg0 key id) l l.length = tag := by
  unfold gnB at h
  simp only [Bool.and_eq_true, decide_eq_true_iff] at h
  exact h
theorem nr_gn {key id tag : Int} {l : List Cv} {c : Cv} (h : gnB key id tag l = true) (hn : nrE id tag l c.k c.v = 0) : gnB key id (tgN tag c) (l ++ [c]) = true ∧ capB id (tgN tag c) (l ++ [c]) = true ∧ chB key id (tgN tag c) (l ++ [c]) = chB key id tag l ++ [tgN tag c] := by
  obtain ⟨hk, hc, hg⟩ := gn_parts h
  have hv : cvB c.k c.v = true := by
    cases hv : cvB c.k c.v
    · unfold nrE at hn; simp [hv] at hn
    · rfl
  have h12 : l.length ≠ 12 := fun e => by unfold nrE at hn; simp [hc, hv, e] at hn
  have hp := capB_parts.1 hc
  have hb : 0 ≤ tgN tag c ∧ tgN tag c < 2147483647 := Dg_bd _
  have hc2 : capB id (tgN tag c) (l ++ [c]) = true := capB_parts.2 ⟨hp.1, by omega, by have := hp.2.2.1; simp; omega, by
    rw [List.any_append, hp.2.2.2]; simp [bad, hv]⟩
  have hg2 : gnB key id (tgN tag c) (l ++ [c]) = true := by
    unfold gnB; rw [hk, hc2, tk_end, hg]; simp
  refine ⟨hg2, hc2, ?_⟩
  unfold chB
  rw [h, hg2, if_pos rfl, if_pos rfl]
  have h1 := chL_take (tg0 key id) (l ++ [c]) (l.length + 1) (by simp)
  rw [List.take_of_length_le (by rw [chL_len]; simp)] at h1
  rw [h1]
  have h2 := tk_end (tg0 key id) l c
  rw [show (l ++ [c]).length = l.length + 1 by simp, hg] at h2
  rw [h2]
  congr 1
  apply List.ext_getElem
  · simp [chL_len]
  · intro i h3 h4
    have h5 : i ≤ l.length := by rw [chL_len] at h4; omega
    simp [chL, tk_app _ _ _ _ h5]
theorem ckR_g {key id tag : Int} {m : List Int} {l : List Cv} {r v x t u : Int} (hs : stB m = true) (h1 : ckV key id tag l r v x t u ≠ 1) : ckR key m id tag l r v x t u = if (chB key id tag l).any (inB m) then 21 else ckV key id tag l r v x t u := by
  unfold ckR; rw [if_pos hs, if_neg h1]
theorem ckR_one {key id tag : Int} {m : List Int} {l : List Cv} {r v x t u : Int} (h : ckR key m id tag l r v x t u ≠ 1) : ckV key id tag l r v x t u ≠ 1 := fun e => h (by
  unfold ckR; simp [e])
theorem in_mg {m : List Int} {n z : Int} : inB (mg m [n]) z = (inB m z || decide (z = n)) := by
  rw [Bool.eq_iff_iff, Bool.or_eq_true, inB_iff, inB_iff, mem_mg, decide_eq_true_iff]; simp
theorem any_add (c m : List Int) (n : Int) : c.any (inB (mg m [n])) = (c.any (inB m) || inB c n) := by
  rw [Bool.eq_iff_iff, Bool.or_eq_true, List.any_eq_true, List.any_eq_true, inB_iff]
  constructor
  · rintro ⟨y, hy, h⟩
    rw [in_mg, Bool.or_eq_true, decide_eq_true_iff] at h
    rcases h with h | h
    · exact .inl ⟨y, hy, h⟩
    · subst h; exact .inr hy
  · rintro (⟨y, hy, h⟩ | h)
    · exact ⟨y, hy, by rw [in_mg, h]; rfl⟩
    · exact ⟨n, h, by rw [in_mg]; simp⟩
/-- After a tag was added. -/
theorem add_cases {key id tag : Int} {m : List Int} {l : List Cv} {r v x t u n E E2 : Int} {ic : Bool} (hs : stB m = true) (hs2 : stB (mg m [n]) = true) (hE : ckR key m id tag l r v x t u = E) (h1 : E ≠ 1) (hE2 : ckR key (mg m [n]) id tag l r v x t u = E2) (hi : inB (chB key id tag l) n = ic) :
    (E = 21 ∧ E2 = 21) ∨ (E ≠ 21 ∧ ic = true ∧ E2 = 21) ∨ (E ≠ 21 ∧ ic = false ∧ E2 ≠ 21) := by
  have hw := ckR_one (m := m) (by rw [hE]; exact h1)
  have hw2 := ckV_ne key id tag l r v x t u
  rw [ckR_g hs hw] at hE
  rw [ckR_g hs2 hw, any_add, hi] at hE2
  cases p : (chB key id tag l).any (inB m) <;> rw [p] at hE hE2
  · have hE : ckV key id tag l r v x t u = E := hE
    rw [hE] at hw2 hE2
    cases ic
    · exact .inr (.inr ⟨hw2, rfl, by rw [← hE2]; exact hw2⟩)
    · exact .inr (.inl ⟨hw2, rfl, hE2.symm⟩)
  · exact .inl ⟨hE.symm, by rw [← hE2]; rfl⟩
/-- The narrowed capability. -/
theorem nar_cases {key id tag : Int} {m : List Int} {l : List Cv} {c : Cv} {r v x t u E H : Int} (hs : stB m = true) (hg : gnB key id tag l = true) (hn : nrE id tag l c.k c.v = 0) (hE : ckR key m id tag l r v x t u = E) (h1 : E ≠ 1) (hH : ckR key m id (tgN tag c) (l ++ [c]) r v x t u = H) :
    (E = 21 ∧ H = 21) ∨ (E ≠ 21 ∧ H = 21 ∧ hsB m (tgN tag c) = true) ∨ (E ≠ 21 ∧ H ≠ 21) := by
  have hw := ckR_one (m := m) (by rw [hE]; exact h1)
  have hw2 := ckV_ne key id tag l r v x t u
  have hw3 := ckV_ne key id (tgN tag c) (l ++ [c]) r v x t u
  obtain ⟨g1, g2, g3⟩ := nr_gn hg hn
  obtain ⟨k1, k2, k3⟩ := gn_parts hg
  have hw4 : ckV key id (tgN tag c) (l ++ [c]) r v x t u ≠ 1 := by
    intro e
    apply hw
    unfold ckV at e ⊢
    rw [k1, hg]
    rw [k1, g1] at e
    have e2 : pmE id (tgN tag c) (l ++ [c]) r v x t u = 1 := by
      by_cases q : pmE id (tgN tag c) (l ++ [c]) r v x t u = 1
      · exact q
      · simp [q] at e
    have e3 : pmB id tag l r v x t u = false := by
      cases hb : pmB id tag l r v x t u
      · rfl
      · unfold pmB at hb
        simp only [Bool.and_eq_true] at hb
        have : pmB id (tgN tag c) (l ++ [c]) r v x t u = true := by unfold pmB; rw [g2, hb.2.1, hb.2.2]; rfl
        unfold pmE at e2
        rw [if_pos this] at e2
        exact absurd e2 (prL_ne1 _)
    have e4 : pmE id tag l r v x t u = 1 := by unfold pmE; rw [e3]; rfl
    simp [e4]
  rw [ckR_g hs hw] at hE
  rw [ckR_g hs hw4, g3, List.any_append] at hH
  cases p : (chB key id tag l).any (inB m) <;> rw [p] at hE hH
  · have hE : ckV key id tag l r v x t u = E := hE
    rw [hE] at hw2
    cases q : inB m (tgN tag c)
    · simp [q] at hH
      exact .inr (.inr ⟨hw2, by rw [← hH]; exact hw3⟩)
    · simp [q] at hH
      exact .inr (.inl ⟨hw2, hH.symm, by unfold hsB; rw [hs, q]; rfl⟩)
  · exact .inl ⟨hE.symm, by rw [← hH]; rfl⟩
theorem ints_form {w : World} {v : Value} {l L : List Int} (h : IntsAt w v l) (e : l = L) : ∃ a c, v = .slice a L.length c ∧ IntsAt w (.slice a L.length c) L := by
  subst e
  obtain ⟨a, c, rfl, h1, h2⟩ := h
  exact ⟨a, c, rfl, _, _, rfl, h1, h2⟩
set_option maxRecDepth 100000 in
set_option maxHeartbeats 4000000 in
theorem nar_few (va : Value) (m : List Int) (key id tag : Int) (sl : Value) (l : List Cv) (ck cz r v x t u tg : Int) (w : World) (ha : TgAt w va m) (h : CvsAt w sl l) (hg : 0 ≤ tg ∧ tg ≤ 4294967295) (hf : fwB m.length = false) : Calls Try.prog 7 #[.agg #[va], .int .i64 key, .agg #[.int .i64 id, sl, .int .i64 tag], .agg #[.int .i64 ck, .int .i64 cz], .agg #[.int .i64 r, .int .i64 v, .int .i64 x, .int .i64 t], .int .i64 u, .int .u32 tg] w fun e w' => e = .returned (.bool true) ∧ Below w.heap.size w w' := by
  have H := Lib.hid h
  have HA := Lib.hid ha
  have FW := Lib.hid hf
  clear hf
  obtain ⟨a, cap, rfl, -, hm, -⟩ := h
  obtain ⟨⟨aa, ac, rfl, ham, -⟩, -⟩ := ha
  unfold maxLen at hm ham
  have HB0 := Lib.hid (Below.refl w.heap.size w)
  go_enter Try.func7, Try.ntmps7
  have KA_1 := Lib.hid (Cs.new w (w.heap.size) #[.slice aa m.length ac] 24 (by simp))
  have HB2 : Hid (Below w.heap.size w (w.alloc (.cells #[.slice aa m.length ac] 24))) := HB0.out.alloc HB0.out.size _
  clear HB0
  have KA_3 := Lib.hid (KA_1.out.alloc (.cells #[.int .i64 id, .slice a l.length cap, .int .i64 tag] 27))
  clear KA_1
  have KC_4 := Lib.hid (Cs.new (w.alloc (.cells #[.slice aa m.length ac] 24)) (w.heap.size + 1) #[.int .i64 id, .slice a l.length cap, .int .i64 tag] 27 (by simp))
  have HB5 : Hid (Below w.heap.size w ((w.alloc (.cells #[.slice aa m.length ac] 24)).alloc (.cells #[.int .i64 id, .slice a l.length cap, .int .i64 tag] 27))) := HB2.out.alloc HB2.out.size _
  clear HB2
  have KA_6 := Lib.hid (KA_3.out.alloc (.cells #[.int .i64 ck, .int .i64 cz] 48))
  clear KA_3
  have KC_7 := Lib.hid (KC_4.out.alloc (.cells #[.int .i64 ck, .int .i64 cz] 48))
  clear KC_4
  have KV_8 := Lib.hid (Cs.new ((w.alloc (.cells #[.slice aa m.length ac] 24)).alloc (.cells #[.int .i64 id, .slice a l.length cap, .int .i64 tag] 27)) (w.heap.size + 1 + 1) #[.int .i64 ck, .int .i64 cz] 48 (by simp))
  have HB9 : Hid (Below w.heap.size w (((w.alloc (.cells #[.slice aa m.length ac] 24)).alloc (.cells #[.int .i64 id, .slice a l.length cap, .int .i64 tag] 27)).alloc (.cells #[.int .i64 ck, .int .i64 cz] 48))) := HB5.out.alloc HB5.out.size _
  clear HB5
  have KA_10 := Lib.hid (KA_6.out.alloc (.cells #[.int .i64 r, .int .i64 v, .int .i64 x, .int .i64 t] 29))
  clear KA_6
  have KC_11 := Lib.hid (KC_7.out.alloc (.cells #[.int .i64 r, .int .i64 v, .int .i64 x, .int .i64 t] 29))
  clear KC_7
  have KV_12 := Lib.hid (KV_8.out.alloc (.cells #[.int .i64 r, .int .i64 v, .int .i64 x, .int .i64 t] 29))
  clear KV_8
  have KK_13 := Lib.hid (Cs.new (((w.alloc (.cells #[.slice aa m.length ac] 24)).alloc (.cells #[.int .i64 id, .slice a l.length cap, .int .i64 tag] 27)).alloc (.cells #[.int .i64 ck, .int .i64 cz] 48)) (w.heap.size + 1 + 1 + 1) #[.int .i64 r, .int .i64 v, .int .i64 x, .int .i64 t] 29 (by simp))
  have HB14 : Hid (Below w.heap.size w ((((w.alloc (.cells #[.slice aa m.length ac] 24)).alloc (.cells #[.int .i64 id, .slice a l.length cap, .int .i64 tag] 27)).alloc (.cells #[.int .i64 ck, .int .i64 cz] 48)).alloc (.cells #[.int .i64 r, .int .i64 v, .int .i64 x, .int .i64 t] 29))) := HB9.out.alloc HB9.out.size _
  clear HB9
  go_wp2_with fail
  refine (head_any _).mono ?_
  rintro e u1 ⟨rfl, b1⟩
  have KA_15 := Lib.hid (KA_10.out.step b1)
  clear KA_10
  have KC_16 := Lib.hid (KC_11.out.step b1)
  clear KC_11
  have KV_17 := Lib.hid (KV_12.out.step b1)
  clear KV_12
  have KK_18 := Lib.hid (KK_13.out.step b1)
  clear KK_13
  have HB19 := Lib.hid (keep2 b1 HB14.out)
  clear HB14 b1
  have xA0 : u1.cell? ⟨w.heap.size, 0, none⟩ = some (.slice aa m.length ac) := KA_15.out.c 0 rfl
  have zA : w.heap.size < u1.heap.size := KA_15.out.2.2
  have z2A : w.heap.size < u1.heap.size + 1 := by omega
  go_wp2_with fail
  have KA_20 := Lib.hid (KA_15.out.alloc (.cells #[.slice aa m.length ac] 24))
  clear KA_15
  have KC_21 := Lib.hid (KC_16.out.alloc (.cells #[.slice aa m.length ac] 24))
  clear KC_16
  have KV_22 := Lib.hid (KV_17.out.alloc (.cells #[.slice aa m.length ac] 24))
  clear KV_17
  have KK_23 := Lib.hid (KK_18.out.alloc (.cells #[.slice aa m.length ac] 24))
  clear KK_18
  have HB24 : Hid (Below w.heap.size w (u1.alloc (.cells #[.slice aa m.length ac] 24))) := HB19.out.alloc HB19.out.size _
  clear HB19
  refine (few_any _ [(aa, m.length, ac)] _ (sls_one u1 aa m.length ac u1.heap.size rfl) (by simp) (by intro q hq; simp at hq; subst hq; unfold maxLen; omega)).mono ?_
  rintro e w' ⟨rfl, rfl⟩
  rw [show ([(aa, m.length, ac)] : List (Option Addr × Nat × Nat)).all (fun q => fwB q.2.1) = false from by simp only [List.all_cons, List.all_nil, FW.out]; rfl]
  clear xA0 zA z2A
  go_wp2
  go_ret
  exact ⟨rfl, HB24.out⟩
set_option maxRecDepth 100000 in
set_option maxHeartbeats 4000000 in
theorem nar_va (va : Value) (m : List Int) (key id tag : Int) (sl : Value) (l : List Cv) (ck cz r v x t u tg : Int) (w : World) (ha : TgAt w va m) (h : CvsAt w sl l) (hg : 0 ≤ tg ∧ tg ≤ 4294967295) (hf : fwB m.length = true) (h1 : stB m = false) : Calls Try.prog 7 #[.agg #[va], .int .i64 key, .agg #[.int .i64 id, sl, .int .i64 tag], .agg #[.int .i64 ck, .int .i64 cz], .agg #[.int .i64 r, .int .i64 v, .int .i64 x, .int .i64 t], .int .i64 u, .int .u32 tg] w fun e w' => e = .returned (.bool true) ∧ Below w.heap.size w w' := by
  have H := Lib.hid h
  have HA := Lib.hid ha
  have FW := Lib.hid hf
  clear hf
  obtain ⟨a, cap, rfl, -, hm, -⟩ := h
  obtain ⟨⟨aa, ac, rfl, ham, -⟩, -⟩ := ha
  unfold maxLen at hm ham
  have S1 := Lib.hid h1
  clear h1
  have HB0 := Lib.hid (Below.refl w.heap.size w)
  go_enter Try.func7, Try.ntmps7
  have KA_1 := Lib.hid (Cs.new w (w.heap.size) #[.slice aa m.length ac] 24 (by simp))
  have HB2 : Hid (Below w.heap.size w (w.alloc (.cells #[.slice aa m.length ac] 24))) := HB0.out.alloc HB0.out.size _
  clear HB0
  have KA_3 := Lib.hid (KA_1.out.alloc (.cells #[.int .i64 id, .slice a l.length cap, .int .i64 tag] 27))
  clear KA_1
  have KC_4 := Lib.hid (Cs.new (w.alloc (.cells #[.slice aa m.length ac] 24)) (w.heap.size + 1) #[.int .i64 id, .slice a l.length cap, .int .i64 tag] 27 (by simp))
  have HB5 : Hid (Below w.heap.size w ((w.alloc (.cells #[.slice aa m.length ac] 24)).alloc (.cells #[.int .i64 id, .slice a l.length cap, .int .i64 tag] 27))) := HB2.out.alloc HB2.out.size _
  clear HB2
  have KA_6 := Lib.hid (KA_3.out.alloc (.cells #[.int .i64 ck, .int .i64 cz] 48))
  clear KA_3
  have KC_7 := Lib.hid (KC_4.out.alloc (.cells #[.int .i64 ck, .int .i64 cz] 48))
  clear KC_4
  have KV_8 := Lib.hid (Cs.new ((w.alloc (.cells #[.slice aa m.length ac] 24)).alloc (.cells #[.int .i64 id, .slice a l.length cap, .int .i64 tag] 27)) (w.heap.size + 1 + 1) #[.int .i64 ck, .int .i64 cz] 48 (by simp))
  have HB9 : Hid (Below w.heap.size w (((w.alloc (.cells #[.slice aa m.length ac] 24)).alloc (.cells #[.int .i64 id, .slice a l.length cap, .int .i64 tag] 27)).alloc (.cells #[.int .i64 ck, .int .i64 cz] 48))) := HB5.out.alloc HB5.out.size _
  clear HB5
  have KA_10 := Lib.hid (KA_6.out.alloc (.cells #[.int .i64 r, .int .i64 v, .int .i64 x, .int .i64 t] 29))
  clear KA_6
  have KC_11 := Lib.hid (KC_7.out.alloc (.cells #[.int .i64 r, .int .i64 v, .int .i64 x, .int .i64 t] 29))
  clear KC_7
  have KV_12 := Lib.hid (KV_8.out.alloc (.cells #[.int .i64 r, .int .i64 v, .int .i64 x, .int .i64 t] 29))
  clear KV_8
  have KK_13 := Lib.hid (Cs.new (((w.alloc (.cells #[.slice aa m.length ac] 24)).alloc (.cells #[.int .i64 id, .slice a l.length cap, .int .i64 tag] 27)).alloc (.cells #[.int .i64 ck, .int .i64 cz] 48)) (w.heap.size + 1 + 1 + 1) #[.int .i64 r, .int .i64 v, .int .i64 x, .int .i64 t] 29 (by simp))
  have HB14 : Hid (Below w.heap.size w ((((w.alloc (.cells #[.slice aa m.length ac] 24)).alloc (.cells #[.int .i64 id, .slice a l.length cap, .int .i64 tag] 27)).alloc (.cells #[.int .i64 ck, .int .i64 cz] 48)).alloc (.cells #[.int .i64 r, .int .i64 v, .int .i64 x, .int .i64 t] 29))) := HB9.out.alloc HB9.out.size _
  clear HB9
  go_wp2_with fail
  refine (head_any _).mono ?_
  rintro e u1 ⟨rfl, b1⟩
  have KA_15 := Lib.hid (KA_10.out.step b1)
  clear KA_10
  have KC_16 := Lib.hid (KC_11.out.step b1)
  clear KC_11
  have KV_17 := Lib.hid (KV_12.out.step b1)
  clear KV_12
  have KK_18 := Lib.hid (KK_13.out.step b1)
  clear KK_13
  have HB19 := Lib.hid (keep2 b1 HB14.out)
  clear HB14 b1
  have xA0 : u1.cell? ⟨w.heap.size, 0, none⟩ = some (.slice aa m.length ac) := KA_15.out.c 0 rfl
  have zA : w.heap.size < u1.heap.size := KA_15.out.2.2
  have z2A : w.heap.size < u1.heap.size + 1 := by omega
  go_wp2_with fail
  have KA_20 := Lib.hid (KA_15.out.alloc (.cells #[.slice aa m.length ac] 24))
  clear KA_15
  have KC_21 := Lib.hid (KC_16.out.alloc (.cells #[.slice aa m.length ac] 24))
  clear KC_16
  have KV_22 := Lib.hid (KV_17.out.alloc (.cells #[.slice aa m.length ac] 24))
  clear KV_17
  have KK_23 := Lib.hid (KK_18.out.alloc (.cells #[.slice aa m.length ac] 24))
  clear KK_18
  have HB24 : Hid (Below w.heap.size w (u1.alloc (.cells #[.slice aa m.length ac] 24))) := HB19.out.alloc HB19.out.size _
  clear HB19
  refine (few_any _ [(aa, m.length, ac)] _ (sls_one u1 aa m.length ac u1.heap.size rfl) (by simp) (by intro q hq; simp at hq; subst hq; unfold maxLen; omega)).mono ?_
  rintro e w' ⟨rfl, rfl⟩
  rw [show ([(aa, m.length, ac)] : List (Option Addr × Nat × Nat)).all (fun q => fwB q.2.1) = true from by simp only [List.all_cons, List.all_nil, FW.out]; rfl]
  clear xA0 zA z2A
  have xA0 : (u1.alloc (.cells #[.slice aa m.length ac] 24)).cell? ⟨w.heap.size, 0, none⟩ = some (.slice aa m.length ac) := KA_20.out.c 0 rfl
  have zA : w.heap.size < (u1.alloc (.cells #[.slice aa m.length ac] 24)).heap.size := KA_20.out.2.2
  have z2A : w.heap.size < (u1.alloc (.cells #[.slice aa m.length ac] 24)).heap.size + 1 := by omega
  go_wp2_with fail
  refine (rvalid_any _ m _ (HA.out.step HB24.out).1).mono ?_
  rintro e u2 ⟨rfl, b2⟩
  clear xA0 zA z2A
  have KA_25 := Lib.hid (KA_20.out.step b2)
  clear KA_20
  have KC_26 := Lib.hid (KC_21.out.step b2)
  clear KC_21
  have KV_27 := Lib.hid (KV_22.out.step b2)
  clear KV_22
  have KK_28 := Lib.hid (KK_23.out.step b2)
  clear KK_23
  have HB29 := Lib.hid (keep2 b2 HB24.out)
  clear HB24 b2
  rw [S1.out]
  go_wp2
  go_ret
  exact ⟨rfl, HB29.out⟩
set_option maxRecDepth 100000 in
set_option maxHeartbeats 4000000 in
theorem nar_len (va : Value) (m : List Int) (key id tag : Int) (sl : Value) (l : List Cv) (ck cz r v x t u tg : Int) (w : World) (ha : TgAt w va m) (h : CvsAt w sl l) (hg : 0 ≤ tg ∧ tg ≤ 4294967295) (hf : fwB m.length = true) (h1 : stB m = true) (h3 : 20 < l.length) : Calls Try.prog 7 #[.agg #[va], .int .i64 key, .agg #[.int .i64 id, sl, .int .i64 tag], .agg #[.int .i64 ck, .int .i64 cz], .agg #[.int .i64 r, .int .i64 v, .int .i64 x, .int .i64 t], .int .i64 u, .int .u32 tg] w fun e w' => e = .returned (.bool true) ∧ Below w.heap.size w w' := by
  have H := Lib.hid h
  have HA := Lib.hid ha
  have FW := Lib.hid hf
  clear hf
  obtain ⟨a, cap, rfl, -, hm, -⟩ := h
  obtain ⟨⟨aa, ac, rfl, ham, -⟩, -⟩ := ha
  unfold maxLen at hm ham
  have S1 := Lib.hid h1
  clear h1
  have g3 : decide (((l).length : Int) > 20) = true := by simp; omega
  have g3' : decide ((20 : Int) < ((l).length : Int)) = true := by simp; omega
  have HB0 := Lib.hid (Below.refl w.heap.size w)
  go_enter Try.func7, Try.ntmps7
  have KA_1 := Lib.hid (Cs.new w (w.heap.size) #[.slice aa m.length ac] 24 (by simp))
  have HB2 : Hid (Below w.heap.size w (w.alloc (.cells #[.slice aa m.length ac] 24))) := HB0.out.alloc HB0.out.size _
  clear HB0
  have KA_3 := Lib.hid (KA_1.out.alloc (.cells #[.int .i64 id, .slice a l.length cap, .int .i64 tag] 27))
  clear KA_1
  have KC_4 := Lib.hid (Cs.new (w.alloc (.cells #[.slice aa m.length ac] 24)) (w.heap.size + 1) #[.int .i64 id, .slice a l.length cap, .int .i64 tag] 27 (by simp))
  have HB5 : Hid (Below w.heap.size w ((w.alloc (.cells #[.slice aa m.length ac] 24)).alloc (.cells #[.int .i64 id, .slice a l.length cap, .int .i64 tag] 27))) := HB2.out.alloc HB2.out.size _
  clear HB2
  have KA_6 := Lib.hid (KA_3.out.alloc (.cells #[.int .i64 ck, .int .i64 cz] 48))
  clear KA_3
  have KC_7 := Lib.hid (KC_4.out.alloc (.cells #[.int .i64 ck, .int .i64 cz] 48))
  clear KC_4
  have KV_8 := Lib.hid (Cs.new ((w.alloc (.cells #[.slice aa m.length ac] 24)).alloc (.cells #[.int .i64 id, .slice a l.length cap, .int .i64 tag] 27)) (w.heap.size + 1 + 1) #[.int .i64 ck, .int .i64 cz] 48 (by simp))
  have HB9 : Hid (Below w.heap.size w (((w.alloc (.cells #[.slice aa m.length ac] 24)).alloc (.cells #[.int .i64 id, .slice a l.length cap, .int .i64 tag] 27)).alloc (.cells #[.int .i64 ck, .int .i64 cz] 48))) := HB5.out.alloc HB5.out.size _
  clear HB5
  have KA_10 := Lib.hid (KA_6.out.alloc (.cells #[.int .i64 r, .int .i64 v, .int .i64 x, .int .i64 t] 29))
  clear KA_6
  have KC_11 := Lib.hid (KC_7.out.alloc (.cells #[.int .i64 r, .int .i64 v, .int .i64 x, .int .i64 t] 29))
  clear KC_7
  have KV_12 := Lib.hid (KV_8.out.alloc (.cells #[.int .i64 r, .int .i64 v, .int .i64 x, .int .i64 t] 29))
  clear KV_8
  have KK_13 := Lib.hid (Cs.new (((w.alloc (.cells #[.slice aa m.length ac] 24)).alloc (.cells #[.int .i64 id, .slice a l.length cap, .int .i64 tag] 27)).alloc (.cells #[.int .i64 ck, .int .i64 cz] 48)) (w.heap.size + 1 + 1 + 1) #[.int .i64 r, .int .i64 v, .int .i64 x, .int .i64 t] 29 (by simp))
  have HB14 : Hid (Below w.heap.size w ((((w.alloc (.cells #[.slice aa m.length ac] 24)).alloc (.cells #[.int .i64 id, .slice a l.length cap, .int .i64 tag] 27)).alloc (.cells #[.int .i64 ck, .int .i64 cz] 48)).alloc (.cells #[.int .i64 r, .int .i64 v, .int .i64 x, .int .i64 t] 29))) := HB9.out.alloc HB9.out.size _
  clear HB9
  go_wp2_with fail
  refine (head_any _).mono ?_
  rintro e u1 ⟨rfl, b1⟩
  have KA_15 := Lib.hid (KA_10.out.step b1)
  clear KA_10
  have KC_16 := Lib.hid (KC_11.out.step b1)
  clear KC_11
  have KV_17 := Lib.hid (KV_12.out.step b1)
  clear KV_12
  have KK_18 := Lib.hid (KK_13.out.step b1)
  clear KK_13
  have HB19 := Lib.hid (keep2 b1 HB14.out)
  clear HB14 b1
  have xA0 : u1.cell? ⟨w.heap.size, 0, none⟩ = some (.slice aa m.length ac) := KA_15.out.c 0 rfl
  have zA : w.heap.size < u1.heap.size := KA_15.out.2.2
  have z2A : w.heap.size < u1.heap.size + 1 := by omega
  go_wp2_with fail
  have KA_20 := Lib.hid (KA_15.out.alloc (.cells #[.slice aa m.length ac] 24))
  clear KA_15
  have KC_21 := Lib.hid (KC_16.out.alloc (.cells #[.slice aa m.length ac] 24))
  clear KC_16
  have KV_22 := Lib.hid (KV_17.out.alloc (.cells #[.slice aa m.length ac] 24))
  clear KV_17
  have KK_23 := Lib.hid (KK_18.out.alloc (.cells #[.slice aa m.length ac] 24))
  clear KK_18
  have HB24 : Hid (Below w.heap.size w (u1.alloc (.cells #[.slice aa m.length ac] 24))) := HB19.out.alloc HB19.out.size _
  clear HB19
  refine (few_any _ [(aa, m.length, ac)] _ (sls_one u1 aa m.length ac u1.heap.size rfl) (by simp) (by intro q hq; simp at hq; subst hq; unfold maxLen; omega)).mono ?_
  rintro e w' ⟨rfl, rfl⟩
  rw [show ([(aa, m.length, ac)] : List (Option Addr × Nat × Nat)).all (fun q => fwB q.2.1) = true from by simp only [List.all_cons, List.all_nil, FW.out]; rfl]
  clear xA0 zA z2A
  have xA0 : (u1.alloc (.cells #[.slice aa m.length ac] 24)).cell? ⟨w.heap.size, 0, none⟩ = some (.slice aa m.length ac) := KA_20.out.c 0 rfl
  have zA : w.heap.size < (u1.alloc (.cells #[.slice aa m.length ac] 24)).heap.size := KA_20.out.2.2
  have z2A : w.heap.size < (u1.alloc (.cells #[.slice aa m.length ac] 24)).heap.size + 1 := by omega
  go_wp2_with fail
  refine (rvalid_any _ m _ (HA.out.step HB24.out).1).mono ?_
  rintro e u2 ⟨rfl, b2⟩
  clear xA0 zA z2A
  have KA_25 := Lib.hid (KA_20.out.step b2)
  clear KA_20
  have KC_26 := Lib.hid (KC_21.out.step b2)
  clear KC_21
  have KV_27 := Lib.hid (KV_22.out.step b2)
  clear KV_22
  have KK_28 := Lib.hid (KK_23.out.step b2)
  clear KK_23
  have HB29 := Lib.hid (keep2 b2 HB24.out)
  clear HB24 b2
  rw [S1.out]
  have xC0 : u2.cell? ⟨w.heap.size + 1, 0, none⟩ = some (.int .i64 id) := KC_26.out.c 0 rfl
  have xC1 : u2.cell? ⟨w.heap.size + 1, 1, none⟩ = some (.slice a l.length cap) := KC_26.out.c 1 rfl
  have xC2 : u2.cell? ⟨w.heap.size + 1, 2, none⟩ = some (.int .i64 tag) := KC_26.out.c 2 rfl
  have zC : w.heap.size + 1 < u2.heap.size := KC_26.out.2.2
  have z2C : w.heap.size + 1 < u2.heap.size + 1 := by omega
  go_wp2
  go_ret
  exact ⟨rfl, HB29.out⟩
set_option maxRecDepth 100000 in
set_option maxHeartbeats 4000000 in
theorem nar_gen (va : Value) (m : List Int) (key id tag : Int) (sl : Value) (l : List Cv) (ck cz r v x t u tg : Int) (w : World) (ha : TgAt w va m) (h : CvsAt w sl l) (hg : 0 ≤ tg ∧ tg ≤ 4294967295) (hf : fwB m.length = true) (h1 : stB m = true) (h3 : l.length ≤ 20) (h4 : gnB key id tag l = false) : Calls Try.prog 7 #[.agg #[va], .int .i64 key, .agg #[.int .i64 id, sl, .int .i64 tag], .agg #[.int .i64 ck, .int .i64 cz], .agg #[.int .i64 r, .int .i64 v, .int .i64 x, .int .i64 t], .int .i64 u, .int .u32 tg] w fun e w' => e = .returned (.bool true) ∧ Below w.heap.size w w' := by
  have H := Lib.hid h
  have HA := Lib.hid ha
  have FW := Lib.hid hf
  clear hf
  obtain ⟨a, cap, rfl, -, hm, -⟩ := h
  obtain ⟨⟨aa, ac, rfl, ham, -⟩, -⟩ := ha
  unfold maxLen at hm ham
  have S1 := Lib.hid h1
  clear h1
  have g3 : decide (((l).length : Int) > 20) = false := by simp; omega
  have g3' : decide ((20 : Int) < ((l).length : Int)) = false := by simp; omega
  have GN := Lib.hid h4
  clear h4
  have HB0 := Lib.hid (Below.refl w.heap.size w)
  go_enter Try.func7, Try.ntmps7
  have KA_1 := Lib.hid (Cs.new w (w.heap.size) #[.slice aa m.length ac] 24 (by simp))
  have HB2 : Hid (Below w.heap.size w (w.alloc (.cells #[.slice aa m.length ac] 24))) := HB0.out.alloc HB0.out.size _
  clear HB0
  have KA_3 := Lib.hid (KA_1.out.alloc (.cells #[.int .i64 id, .slice a l.length cap, .int .i64 tag] 27))
  clear KA_1
  have KC_4 := Lib.hid (Cs.new (w.alloc (.cells #[.slice aa m.length ac] 24)) (w.heap.size + 1) #[.int .i64 id, .slice a l.length cap, .int .i64 tag] 27 (by simp))
  have HB5 : Hid (Below w.heap.size w ((w.alloc (.cells #[.slice aa m.length ac] 24)).alloc (.cells #[.int .i64 id, .slice a l.length cap, .int .i64 tag] 27))) := HB2.out.alloc HB2.out.size _
  clear HB2
  have KA_6 := Lib.hid (KA_3.out.alloc (.cells #[.int .i64 ck, .int .i64 cz] 48))
  clear KA_3
  have KC_7 := Lib.hid (KC_4.out.alloc (.cells #[.int .i64 ck, .int .i64 cz] 48))
  clear KC_4
  have KV_8 := Lib.hid (Cs.new ((w.alloc (.cells #[.slice aa m.length ac] 24)).alloc (.cells #[.int .i64 id, .slice a l.length cap, .int .i64 tag] 27)) (w.heap.size + 1 + 1) #[.int .i64 ck, .int .i64 cz] 48 (by simp))
  have HB9 : Hid (Below w.heap.size w (((w.alloc (.cells #[.slice aa m.length ac] 24)).alloc (.cells #[.int .i64 id, .slice a l.length cap, .int .i64 tag] 27)).alloc (.cells #[.int .i64 ck, .int .i64 cz] 48))) := HB5.out.alloc HB5.out.size _
  clear HB5
  have KA_10 := Lib.hid (KA_6.out.alloc (.cells #[.int .i64 r, .int .i64 v, .int .i64 x, .int .i64 t] 29))
  clear KA_6
  have KC_11 := Lib.hid (KC_7.out.alloc (.cells #[.int .i64 r, .int .i64 v, .int .i64 x, .int .i64 t] 29))
  clear KC_7
  have KV_12 := Lib.hid (KV_8.out.alloc (.cells #[.int .i64 r, .int .i64 v, .int .i64 x, .int .i64 t] 29))
  clear KV_8
  have KK_13 := Lib.hid (Cs.new (((w.alloc (.cells #[.slice aa m.length ac] 24)).alloc (.cells #[.int .i64 id, .slice a l.length cap, .int .i64 tag] 27)).alloc (.cells #[.int .i64 ck, .int .i64 cz] 48)) (w.heap.size + 1 + 1 + 1) #[.int .i64 r, .int .i64 v, .int .i64 x, .int .i64 t] 29 (by simp))
  have HB14 : Hid (Below w.heap.size w ((((w.alloc (.cells #[.slice aa m.length ac] 24)).alloc (.cells #[.int .i64 id, .slice a l.length cap, .int .i64 tag] 27)).alloc (.cells #[.int .i64 ck, .int .i64 cz] 48)).alloc (.cells #[.int .i64 r, .int .i64 v, .int .i64 x, .int .i64 t] 29))) := HB9.out.alloc HB9.out.size _
  clear HB9
  go_wp2_with fail
  refine (head_any _).mono ?_
  rintro e u1 ⟨rfl, b1⟩
  have KA_15 := Lib.hid (KA_10.out.step b1)
  clear KA_10
  have KC_16 := Lib.hid (KC_11.out.step b1)
  clear KC_11
  have KV_17 := Lib.hid (KV_12.out.step b1)
  clear KV_12
  have KK_18 := Lib.hid (KK_13.out.step b1)
  clear KK_13
  have HB19 := Lib.hid (keep2 b1 HB14.out)
  clear HB14 b1
  have xA0 : u1.cell? ⟨w.heap.size, 0, none⟩ = some (.slice aa m.length ac) := KA_15.out.c 0 rfl
  have zA : w.heap.size < u1.heap.size := KA_15.out.2.2
  have z2A : w.heap.size < u1.heap.size + 1 := by omega
  go_wp2_with fail
  have KA_20 := Lib.hid (KA_15.out.alloc (.cells #[.slice aa m.length ac] 24))
  clear KA_15
  have KC_21 := Lib.hid (KC_16.out.alloc (.cells #[.slice aa m.length ac] 24))
  clear KC_16
  have KV_22 := Lib.hid (KV_17.out.alloc (.cells #[.slice aa m.length ac] 24))
  clear KV_17
  have KK_23 := Lib.hid (KK_18.out.alloc (.cells #[.slice aa m.length ac] 24))
  clear KK_18
  have HB24 : Hid (Below w.heap.size w (u1.alloc (.cells #[.slice aa m.length ac] 24))) := HB19.out.alloc HB19.out.size _
  clear HB19
  refine (few_any _ [(aa, m.length, ac)] _ (sls_one u1 aa m.length ac u1.heap.size rfl) (by simp) (by intro q hq; simp at hq; subst hq; unfold maxLen; omega)).mono ?_
  rintro e w' ⟨rfl, rfl⟩
  rw [show ([(aa, m.length, ac)] : List (Option Addr × Nat × Nat)).all (fun q => fwB q.2.1) = true from by simp only [List.all_cons, List.all_nil, FW.out]; rfl]
  clear xA0 zA z2A
  have xA0 : (u1.alloc (.cells #[.slice aa m.length ac] 24)).cell? ⟨w.heap.size, 0, none⟩ = some (.slice aa m.length ac) := KA_20.out.c 0 rfl
  have zA : w.heap.size < (u1.alloc (.cells #[.slice aa m.length ac] 24)).heap.size := KA_20.out.2.2
  have z2A : w.heap.size < (u1.alloc (.cells #[.slice aa m.length ac] 24)).heap.size + 1 := by omega
  go_wp2_with fail
  refine (rvalid_any _ m _ (HA.out.step HB24.out).1).mono ?_
  rintro e u2 ⟨rfl, b2⟩
  clear xA0 zA z2A
  have KA_25 := Lib.hid (KA_20.out.step b2)
  clear KA_20
  have KC_26 := Lib.hid (KC_21.out.step b2)
  clear KC_21
  have KV_27 := Lib.hid (KV_22.out.step b2)
  clear KV_22
  have KK_28 := Lib.hid (KK_23.out.step b2)
  clear KK_23
  have HB29 := Lib.hid (keep2 b2 HB24.out)
  clear HB24 b2
  rw [S1.out]
  have xC0 : u2.cell? ⟨w.heap.size + 1, 0, none⟩ = some (.int .i64 id) := KC_26.out.c 0 rfl
  have xC1 : u2.cell? ⟨w.heap.size + 1, 1, none⟩ = some (.slice a l.length cap) := KC_26.out.c 1 rfl
  have xC2 : u2.cell? ⟨w.heap.size + 1, 2, none⟩ = some (.int .i64 tag) := KC_26.out.c 2 rfl
  have zC : w.heap.size + 1 < u2.heap.size := KC_26.out.2.2
  have z2C : w.heap.size + 1 < u2.heap.size + 1 := by omega
  go_wp2_with fail
  refine (genuine_any key id tag _ l _ (H.out.step HB29.out)).mono ?_
  rintro e u3 ⟨rfl, b3⟩
  clear xC0 xC1 xC2 zC z2C
  have KA_30 := Lib.hid (KA_25.out.step b3)
  clear KA_25
  have KC_31 := Lib.hid (KC_26.out.step b3)
  clear KC_26
  have KV_32 := Lib.hid (KV_27.out.step b3)
  clear KV_27
  have KK_33 := Lib.hid (KK_28.out.step b3)
  clear KK_28
  have HB34 := Lib.hid (keep2 b3 HB29.out)
  clear HB29 b3
  rw [GN.out]
  go_wp2
  go_ret
  exact ⟨rfl, HB34.out⟩
set_option maxRecDepth 100000 in
set_option maxHeartbeats 4000000 in
theorem nar_one (va : Value) (m : List Int) (key id tag : Int) (sl : Value) (l : List Cv) (ck cz r v x t u tg : Int) (w : World) (ha : TgAt w va m) (h : CvsAt w sl l) (hg : 0 ≤ tg ∧ tg ≤ 4294967295) (hf : fwB m.length = true) (h1 : stB m = true) (h3 : l.length ≤ 20) (h4 : gnB key id tag l = true) (h5 : ckR key m id tag l r v x t u = 1) : Calls Try.prog 7 #[.agg #[va], .int .i64 key, .agg #[.int .i64 id, sl, .int .i64 tag], .agg #[.int .i64 ck, .int .i64 cz], .agg #[.int .i64 r, .int .i64 v, .int .i64 x, .int .i64 t], .int .i64 u, .int .u32 tg] w fun e w' => e = .returned (.bool true) ∧ Below w.heap.size w w' := by
  have H := Lib.hid h
  have HA := Lib.hid ha
  have FW := Lib.hid hf
  clear hf
  obtain ⟨a, cap, rfl, -, hm, -⟩ := h
  obtain ⟨⟨aa, ac, rfl, ham, -⟩, -⟩ := ha
  unfold maxLen at hm ham
  have S1 := Lib.hid h1
  clear h1
  have g3 : decide (((l).length : Int) > 20) = false := by simp; omega
  have g3' : decide ((20 : Int) < ((l).length : Int)) = false := by simp; omega
  have GN := Lib.hid h4
  clear h4
  have H5 := Lib.hid h5
  clear h5
  have HB0 := Lib.hid (Below.refl w.heap.size w)
  go_enter Try.func7, Try.ntmps7
  have KA_1 := Lib.hid (Cs.new w (w.heap.size) #[.slice aa m.length ac] 24 (by simp))
  have HB2 : Hid (Below w.heap.size w (w.alloc (.cells #[.slice aa m.length ac] 24))) := HB0.out.alloc HB0.out.size _
  clear HB0
  have KA_3 := Lib.hid (KA_1.out.alloc (.cells #[.int .i64 id, .slice a l.length cap, .int .i64 tag] 27))
  clear KA_1
  have KC_4 := Lib.hid (Cs.new (w.alloc (.cells #[.slice aa m.length ac] 24)) (w.heap.size + 1) #[.int .i64 id, .slice a l.length cap, .int .i64 tag] 27 (by simp))
  have HB5 : Hid (Below w.heap.size w ((w.alloc (.cells #[.slice aa m.length ac] 24)).alloc (.cells #[.int .i64 id, .slice a l.length cap, .int .i64 tag] 27))) := HB2.out.alloc HB2.out.size _
  clear HB2
  have KA_6 := Lib.hid (KA_3.out.alloc (.cells #[.int .i64 ck, .int .i64 cz] 48))
  clear KA_3
  have KC_7 := Lib.hid (KC_4.out.alloc (.cells #[.int .i64 ck, .int .i64 cz] 48))
  clear KC_4
  have KV_8 := Lib.hid (Cs.new ((w.alloc (.cells #[.slice aa m.length ac] 24)).alloc (.cells #[.int .i64 id, .slice a l.length cap, .int .i64 tag] 27)) (w.heap.size + 1 + 1) #[.int .i64 ck, .int .i64 cz] 48 (by simp))
  have HB9 : Hid (Below w.heap.size w (((w.alloc (.cells #[.slice aa m.length ac] 24)).alloc (.cells #[.int .i64 id, .slice a l.length cap, .int .i64 tag] 27)).alloc (.cells #[.int .i64 ck, .int .i64 cz] 48))) := HB5.out.alloc HB5.out.size _
  clear HB5
  have KA_10 := Lib.hid (KA_6.out.alloc (.cells #[.int .i64 r, .int .i64 v, .int .i64 x, .int .i64 t] 29))
  clear KA_6
  have KC_11 := Lib.hid (KC_7.out.alloc (.cells #[.int .i64 r, .int .i64 v, .int .i64 x, .int .i64 t] 29))
  clear KC_7
  have KV_12 := Lib.hid (KV_8.out.alloc (.cells #[.int .i64 r, .int .i64 v, .int .i64 x, .int .i64 t] 29))
  clear KV_8
  have KK_13 := Lib.hid (Cs.new (((w.alloc (.cells #[.slice aa m.length ac] 24)).alloc (.cells #[.int .i64 id, .slice a l.length cap, .int .i64 tag] 27)).alloc (.cells #[.int .i64 ck, .int .i64 cz] 48)) (w.heap.size + 1 + 1 + 1) #[.int .i64 r, .int .i64 v, .int .i64 x, .int .i64 t] 29 (by simp))
  have HB14 : Hid (Below w.heap.size w ((((w.alloc (.cells #[.slice aa m.length ac] 24)).alloc (.cells #[.int .i64 id, .slice a l.length cap, .int .i64 tag] 27)).alloc (.cells #[.int .i64 ck, .int .i64 cz] 48)).alloc (.cells #[.int .i64 r, .int .i64 v, .int .i64 x, .int .i64 t] 29))) := HB9.out.alloc HB9.out.size _
  clear HB9
  go_wp2_with fail
  refine (head_any _).mono ?_
  rintro e u1 ⟨rfl, b1⟩
  have KA_15 := Lib.hid (KA_10.out.step b1)
  clear KA_10
  have KC_16 := Lib.hid (KC_11.out.step b1)
  clear KC_11
  have KV_17 := Lib.hid (KV_12.out.step b1)
  clear KV_12
  have KK_18 := Lib.hid (KK_13.out.step b1)
  clear KK_13
  have HB19 := Lib.hid (keep2 b1 HB14.out)
  clear HB14 b1
  have xA0 : u1.cell? ⟨w.heap.size, 0, none⟩ = some (.slice aa m.length ac) := KA_15.out.c 0 rfl
  have zA : w.heap.size < u1.heap.size := KA_15.out.2.2
  have z2A : w.heap.size < u1.heap.size + 1 := by omega
  go_wp2_with fail
  have KA_20 := Lib.hid (KA_15.out.alloc (.cells #[.slice aa m.length ac] 24))
  clear KA_15
  have KC_21 := Lib.hid (KC_16.out.alloc (.cells #[.slice aa m.length ac] 24))
  clear KC_16
  have KV_22 := Lib.hid (KV_17.out.alloc (.cells #[.slice aa m.length ac] 24))
  clear KV_17
  have KK_23 := Lib.hid (KK_18.out.alloc (.cells #[.slice aa m.length ac] 24))
  clear KK_18
  have HB24 : Hid (Below w.heap.size w (u1.alloc (.cells #[.slice aa m.length ac] 24))) := HB19.out.alloc HB19.out.size _
  clear HB19
  refine (few_any _ [(aa, m.length, ac)] _ (sls_one u1 aa m.length ac u1.heap.size rfl) (by simp) (by intro q hq; simp at hq; subst hq; unfold maxLen; omega)).mono ?_
  rintro e w' ⟨rfl, rfl⟩
  rw [show ([(aa, m.length, ac)] : List (Option Addr × Nat × Nat)).all (fun q => fwB q.2.1) = true from by simp only [List.all_cons, List.all_nil, FW.out]; rfl]
  clear xA0 zA z2A
  have xA0 : (u1.alloc (.cells #[.slice aa m.length ac] 24)).cell? ⟨w.heap.size, 0, none⟩ = some (.slice aa m.length ac) := KA_20.out.c 0 rfl
  have zA : w.heap.size < (u1.alloc (.cells #[.slice aa m.length ac] 24)).heap.size := KA_20.out.2.2
  have z2A : w.heap.size < (u1.alloc (.cells #[.slice aa m.length ac] 24)).heap.size + 1 := by omega
  go_wp2_with fail
  refine (rvalid_any _ m _ (HA.out.step HB24.out).1).mono ?_
  rintro e u2 ⟨rfl, b2⟩
  clear xA0 zA z2A
  have KA_25 := Lib.hid (KA_20.out.step b2)
  clear KA_20
  have KC_26 := Lib.hid (KC_21.out.step b2)
  clear KC_21
  have KV_27 := Lib.hid (KV_22.out.step b2)
  clear KV_22
  have KK_28 := Lib.hid (KK_23.out.step b2)
  clear KK_23
  have HB29 := Lib.hid (keep2 b2 HB24.out)
  clear HB24 b2
  rw [S1.out]
  have xC0 : u2.cell? ⟨w.heap.size + 1, 0, none⟩ = some (.int .i64 id) := KC_26.out.c 0 rfl
  have xC1 : u2.cell? ⟨w.heap.size + 1, 1, none⟩ = some (.slice a l.length cap) := KC_26.out.c 1 rfl
  have xC2 : u2.cell? ⟨w.heap.size + 1, 2, none⟩ = some (.int .i64 tag) := KC_26.out.c 2 rfl
  have zC : w.heap.size + 1 < u2.heap.size := KC_26.out.2.2
  have z2C : w.heap.size + 1 < u2.heap.size + 1 := by omega
  go_wp2_with fail
  refine (genuine_any key id tag _ l _ (H.out.step HB29.out)).mono ?_
  rintro e u3 ⟨rfl, b3⟩
  clear xC0 xC1 xC2 zC z2C
  have KA_30 := Lib.hid (KA_25.out.step b3)
  clear KA_25
  have KC_31 := Lib.hid (KC_26.out.step b3)
  clear KC_26
  have KV_32 := Lib.hid (KV_27.out.step b3)
  clear KV_27
  have KK_33 := Lib.hid (KK_28.out.step b3)
  clear KK_28
  have HB34 := Lib.hid (keep2 b3 HB29.out)
  clear HB29 b3
  rw [GN.out]
  have xA0 : u3.cell? ⟨w.heap.size, 0, none⟩ = some (.slice aa m.length ac) := KA_30.out.c 0 rfl
  have zA : w.heap.size < u3.heap.size := KA_30.out.2.2
  have z2A : w.heap.size < u3.heap.size + 1 := by omega
  have xC0 : u3.cell? ⟨w.heap.size + 1, 0, none⟩ = some (.int .i64 id) := KC_31.out.c 0 rfl
  have xC1 : u3.cell? ⟨w.heap.size + 1, 1, none⟩ = some (.slice a l.length cap) := KC_31.out.c 1 rfl
  have xC2 : u3.cell? ⟨w.heap.size + 1, 2, none⟩ = some (.int .i64 tag) := KC_31.out.c 2 rfl
  have zC : w.heap.size + 1 < u3.heap.size := KC_31.out.2.2
  have z2C : w.heap.size + 1 < u3.heap.size + 1 := by omega
  have xK0 : u3.cell? ⟨w.heap.size + 1 + 1 + 1, 0, none⟩ = some (.int .i64 r) := KK_33.out.c 0 rfl
  have xK1 : u3.cell? ⟨w.heap.size + 1 + 1 + 1, 1, none⟩ = some (.int .i64 v) := KK_33.out.c 1 rfl
  have xK2 : u3.cell? ⟨w.heap.size + 1 + 1 + 1, 2, none⟩ = some (.int .i64 x) := KK_33.out.c 2 rfl
  have xK3 : u3.cell? ⟨w.heap.size + 1 + 1 + 1, 3, none⟩ = some (.int .i64 t) := KK_33.out.c 3 rfl
  have zK : w.heap.size + 1 + 1 + 1 < u3.heap.size := KK_33.out.2.2
  have z2K : w.heap.size + 1 + 1 + 1 < u3.heap.size + 1 := by omega
  go_wp2_with fail
  refine (chk_any key id tag r v x t u _ _ m l _ (H.out.step HB34.out) (HA.out.step HB34.out).1).mono ?_
  rintro e u24 ⟨rfl, b24⟩
  obtain ⟨E, hE⟩ : ∃ E, ckR key m id tag l r v x t u = E := ⟨_, rfl⟩
  rw [hE]
  replace hE := Lib.hid hE
  clear xA0 zA z2A xC0 xC1 xC2 zC z2C xK0 xK1 xK2 xK3 zK z2K
  have KA_35 := Lib.hid (KA_30.out.step b24)
  clear KA_30
  have KC_36 := Lib.hid (KC_31.out.step b24)
  clear KC_31
  have KV_37 := Lib.hid (KV_32.out.step b24)
  clear KV_32
  have KK_38 := Lib.hid (KK_33.out.step b24)
  clear KK_33
  have HB39 := Lib.hid (keep2 b24 HB34.out)
  clear HB34 b24
  obtain rfl : E = 1 := hE.out.symm.trans H5.out
  go_wp2
  go_ret
  exact ⟨rfl, HB39.out⟩
set_option maxRecDepth 100000 in
set_option maxHeartbeats 4000000 in
theorem nar_full_bad (va : Value) (m : List Int) (key id tag : Int) (sl : Value) (l : List Cv) (ck cz r v x t u tg : Int) (w : World) (ha : TgAt w va m) (h : CvsAt w sl l) (hg : 0 ≤ tg ∧ tg ≤ 4294967295) (hf : fwB m.length = true) (h1 : stB m = true) (h3 : l.length ≤ 20) (h4 : gnB key id tag l = true) (h5 : ckR key m id tag l r v x t u ≠ 1) (h6 : mgE m [tg % 2147483647] = 30) (h7 : nrE id tag l ck cz ≠ 0) : Calls Try.prog 7 #[.agg #[va], .int .i64 key, .agg #[.int .i64 id, sl, .int .i64 tag], .agg #[.int .i64 ck, .int .i64 cz], .agg #[.int .i64 r, .int .i64 v, .int .i64 x, .int .i64 t], .int .i64 u, .int .u32 tg] w fun e w' => e = .returned (.bool true) ∧ Below w.heap.size w w' := by
  have H := Lib.hid h
  have HA := Lib.hid ha
  have FW := Lib.hid hf
  clear hf
  obtain ⟨a, cap, rfl, -, hm, -⟩ := h
  obtain ⟨⟨aa, ac, rfl, ham, -⟩, -⟩ := ha
  unfold maxLen at hm ham
  have S1 := Lib.hid h1
  clear h1
  have g3 : decide (((l).length : Int) > 20) = false := by simp; omega
  have g3' : decide ((20 : Int) < ((l).length : Int)) = false := by simp; omega
  have GN := Lib.hid h4
  clear h4
  have H5 := Lib.hid h5
  clear h5
  have H6 := Lib.hid h6
  clear h6
  have H7 := Lib.hid h7
  clear h7
  have HB0 := Lib.hid (Below.refl w.heap.size w)
  go_enter Try.func7, Try.ntmps7
  have KA_1 := Lib.hid (Cs.new w (w.heap.size) #[.slice aa m.length ac] 24 (by simp))
  have HB2 : Hid (Below w.heap.size w (w.alloc (.cells #[.slice aa m.length ac] 24))) := HB0.out.alloc HB0.out.size _
  clear HB0
  have KA_3 := Lib.hid (KA_1.out.alloc (.cells #[.int .i64 id, .slice a l.length cap, .int .i64 tag] 27))
  clear KA_1
  have KC_4 := Lib.hid (Cs.new (w.alloc (.cells #[.slice aa m.length ac] 24)) (w.heap.size + 1) #[.int .i64 id, .slice a l.length cap, .int .i64 tag] 27 (by simp))
  have HB5 : Hid (Below w.heap.size w ((w.alloc (.cells #[.slice aa m.length ac] 24)).alloc (.cells #[.int .i64 id, .slice a l.length cap, .int .i64 tag] 27))) := HB2.out.alloc HB2.out.size _
  clear HB2
  have KA_6 := Lib.hid (KA_3.out.alloc (.cells #[.int .i64 ck, .int .i64 cz] 48))
  clear KA_3
  have KC_7 := Lib.hid (KC_4.out.alloc (.cells #[.int .i64 ck, .int .i64 cz] 48))
  clear KC_4
  have KV_8 := Lib.hid (Cs.new ((w.alloc (.cells #[.slice aa m.length ac] 24)).alloc (.cells #[.int .i64 id, .slice a l.length cap, .int .i64 tag] 27)) (w.heap.size + 1 + 1) #[.int .i64 ck, .int .i64 cz] 48 (by simp))
  have HB9 : Hid (Below w.heap.size w (((w.alloc (.cells #[.slice aa m.length ac] 24)).alloc (.cells #[.int .i64 id, .slice a l.length cap, .int .i64 tag] 27)).alloc (.cells #[.int .i64 ck, .int .i64 cz] 48))) := HB5.out.alloc HB5.out.size _
  clear HB5
  have KA_10 := Lib.hid (KA_6.out.alloc (.cells #[.int .i64 r, .int .i64 v, .int .i64 x, .int .i64 t] 29))
  clear KA_6
  have KC_11 := Lib.hid (KC_7.out.alloc (.cells #[.int .i64 r, .int .i64 v, .int .i64 x, .int .i64 t] 29))
  clear KC_7
  have KV_12 := Lib.hid (KV_8.out.alloc (.cells #[.int .i64 r, .int .i64 v, .int .i64 x, .int .i64 t] 29))
  clear KV_8
  have KK_13 := Lib.hid (Cs.new (((w.alloc (.cells #[.slice aa m.length ac] 24)).alloc (.cells #[.int .i64 id, .slice a l.length cap, .int .i64 tag] 27)).alloc (.cells #[.int .i64 ck, .int .i64 cz] 48)) (w.heap.size + 1 + 1 + 1) #[.int .i64 r, .int .i64 v, .int .i64 x, .int .i64 t] 29 (by simp))
  have HB14 : Hid (Below w.heap.size w ((((w.alloc (.cells #[.slice aa m.length ac] 24)).alloc (.cells #[.int .i64 id, .slice a l.length cap, .int .i64 tag] 27)).alloc (.cells #[.int .i64 ck, .int .i64 cz] 48)).alloc (.cells #[.int .i64 r, .int .i64 v, .int .i64 x, .int .i64 t] 29))) := HB9.out.alloc HB9.out.size _
  clear HB9
  go_wp2_with fail
  refine (head_any _).mono ?_
  rintro e u1 ⟨rfl, b1⟩
  have KA_15 := Lib.hid (KA_10.out.step b1)
  clear KA_10
  have KC_16 := Lib.hid (KC_11.out.step b1)
  clear KC_11
  have KV_17 := Lib.hid (KV_12.out.step b1)
  clear KV_12
  have KK_18 := Lib.hid (KK_13.out.step b1)
  clear KK_13
  have HB19 := Lib.hid (keep2 b1 HB14.out)
  clear HB14 b1
  have xA0 : u1.cell? ⟨w.heap.size, 0, none⟩ = some (.slice aa m.length ac) := KA_15.out.c 0 rfl
  have zA : w.heap.size < u1.heap.size := KA_15.out.2.2
  have z2A : w.heap.size < u1.heap.size + 1 := by omega
  go_wp2_with fail
  have KA_20 := Lib.hid (KA_15.out.alloc (.cells #[.slice aa m.length ac] 24))
  clear KA_15
  have KC_21 := Lib.hid (KC_16.out.alloc (.cells #[.slice aa m.length ac] 24))
  clear KC_16
  have KV_22 := Lib.hid (KV_17.out.alloc (.cells #[.slice aa m.length ac] 24))
  clear KV_17
  have KK_23 := Lib.hid (KK_18.out.alloc (.cells #[.slice aa m.length ac] 24))
  clear KK_18
  have HB24 : Hid (Below w.heap.size w (u1.alloc (.cells #[.slice aa m.length ac] 24))) := HB19.out.alloc HB19.out.size _
  clear HB19
  refine (few_any _ [(aa, m.length, ac)] _ (sls_one u1 aa m.length ac u1.heap.size rfl) (by simp) (by intro q hq; simp at hq; subst hq; unfold maxLen; omega)).mono ?_
  rintro e w' ⟨rfl, rfl⟩
  rw [show ([(aa, m.length, ac)] : List (Option Addr × Nat × Nat)).all (fun q => fwB q.2.1) = true from by simp only [List.all_cons, List.all_nil, FW.out]; rfl]
  clear xA0 zA z2A
  have xA0 : (u1.alloc (.cells #[.slice aa m.length ac] 24)).cell? ⟨w.heap.size, 0, none⟩ = some (.slice aa m.length ac) := KA_20.out.c 0 rfl
  have zA : w.heap.size < (u1.alloc (.cells #[.slice aa m.length ac] 24)).heap.size := KA_20.out.2.2
  have z2A : w.heap.size < (u1.alloc (.cells #[.slice aa m.length ac] 24)).heap.size + 1 := by omega
  go_wp2_with fail
  refine (rvalid_any _ m _ (HA.out.step HB24.out).1).mono ?_
  rintro e u2 ⟨rfl, b2⟩
  clear xA0 zA z2A
  have KA_25 := Lib.hid (KA_20.out.step b2)
  clear KA_20
  have KC_26 := Lib.hid (KC_21.out.step b2)
  clear KC_21
  have KV_27 := Lib.hid (KV_22.out.step b2)
  clear KV_22
  have KK_28 := Lib.hid (KK_23.out.step b2)
  clear KK_23
  have HB29 := Lib.hid (keep2 b2 HB24.out)
  clear HB24 b2
  rw [S1.out]
  have xC0 : u2.cell? ⟨w.heap.size + 1, 0, none⟩ = some (.int .i64 id) := KC_26.out.c 0 rfl
  have xC1 : u2.cell? ⟨w.heap.size + 1, 1, none⟩ = some (.slice a l.length cap) := KC_26.out.c 1 rfl
  have xC2 : u2.cell? ⟨w.heap.size + 1, 2, none⟩ = some (.int .i64 tag) := KC_26.out.c 2 rfl
  have zC : w.heap.size + 1 < u2.heap.size := KC_26.out.2.2
  have z2C : w.heap.size + 1 < u2.heap.size + 1 := by omega
  go_wp2_with fail
  refine (genuine_any key id tag _ l _ (H.out.step HB29.out)).mono ?_
  rintro e u3 ⟨rfl, b3⟩
  clear xC0 xC1 xC2 zC z2C
  have KA_30 := Lib.hid (KA_25.out.step b3)
  clear KA_25
  have KC_31 := Lib.hid (KC_26.out.step b3)
  clear KC_26
  have KV_32 := Lib.hid (KV_27.out.step b3)
  clear KV_27
  have KK_33 := Lib.hid (KK_28.out.step b3)
  clear KK_28
  have HB34 := Lib.hid (keep2 b3 HB29.out)
  clear HB29 b3
  rw [GN.out]
  have xA0 : u3.cell? ⟨w.heap.size, 0, none⟩ = some (.slice aa m.length ac) := KA_30.out.c 0 rfl
  have zA : w.heap.size < u3.heap.size := KA_30.out.2.2
  have z2A : w.heap.size < u3.heap.size + 1 := by omega
  have xC0 : u3.cell? ⟨w.heap.size + 1, 0, none⟩ = some (.int .i64 id) := KC_31.out.c 0 rfl
  have xC1 : u3.cell? ⟨w.heap.size + 1, 1, none⟩ = some (.slice a l.length cap) := KC_31.out.c 1 rfl
  have xC2 : u3.cell? ⟨w.heap.size + 1, 2, none⟩ = some (.int .i64 tag) := KC_31.out.c 2 rfl
  have zC : w.heap.size + 1 < u3.heap.size := KC_31.out.2.2
  have z2C : w.heap.size + 1 < u3.heap.size + 1 := by omega
  have xK0 : u3.cell? ⟨w.heap.size + 1 + 1 + 1, 0, none⟩ = some (.int .i64 r) := KK_33.out.c 0 rfl
  have xK1 : u3.cell? ⟨w.heap.size + 1 + 1 + 1, 1, none⟩ = some (.int .i64 v) := KK_33.out.c 1 rfl
  have xK2 : u3.cell? ⟨w.heap.size + 1 + 1 + 1, 2, none⟩ = some (.int .i64 x) := KK_33.out.c 2 rfl
  have xK3 : u3.cell? ⟨w.heap.size + 1 + 1 + 1, 3, none⟩ = some (.int .i64 t) := KK_33.out.c 3 rfl
  have zK : w.heap.size + 1 + 1 + 1 < u3.heap.size := KK_33.out.2.2
  have z2K : w.heap.size + 1 + 1 + 1 < u3.heap.size + 1 := by omega
  go_wp2_with fail
  refine (chk_any key id tag r v x t u _ _ m l _ (H.out.step HB34.out) (HA.out.step HB34.out).1).mono ?_
  rintro e u24 ⟨rfl, b24⟩
  obtain ⟨E, hE⟩ : ∃ E, ckR key m id tag l r v x t u = E := ⟨_, rfl⟩
  rw [hE]
  replace hE := Lib.hid hE
  clear xA0 zA z2A xC0 xC1 xC2 zC z2C xK0 xK1 xK2 xK3 zK z2K
  have KA_35 := Lib.hid (KA_30.out.step b24)
  clear KA_30
  have KC_36 := Lib.hid (KC_31.out.step b24)
  clear KC_31
  have KV_37 := Lib.hid (KV_32.out.step b24)
  clear KV_32
  have KK_38 := Lib.hid (KK_33.out.step b24)
  clear KK_33
  have HB39 := Lib.hid (keep2 b24 HB34.out)
  clear HB34 b24
  have n1 : E ≠ 1 := fun q => H5.out (hE.out.trans q)
  have n2 : (E == 1) = false := by simpa using n1
  have n3 : decide (E = 1) = false := by simpa using n1
  clear n1
  have N1 : Hid (E ≠ 1) := Lib.hid (fun q => H5.out (hE.out.trans q))
  have t1 : wrap64 (tg.tmod 2147483647) = tg % 2147483647 := by rw [Int.tmod_eq_emod_of_nonneg hg.1]; exact IntWalk.wrap64_in _ (by omega)
  have xA0 : u24.cell? ⟨w.heap.size, 0, none⟩ = some (.slice aa m.length ac) := KA_35.out.c 0 rfl
  have zA : w.heap.size < u24.heap.size := KA_35.out.2.2
  have z2A : w.heap.size < u24.heap.size + 1 := by omega
  go_wp2_with fail
  refine (add_any _ m (tg % 2147483647) _ (HA.out.step HB39.out)).mono ?_
  rintro e u25 ⟨⟨um, rfl, hum⟩, b25⟩
  rw [H6.out]
  obtain ⟨L, hL⟩ : ∃ L, mgL m [tg % 2147483647] = L := ⟨_, rfl⟩
  obtain ⟨ma, mc, rfl, htm⟩ := row_tg hum hL rfl
  have HM := Lib.hid htm
  clear hum htm
  replace hL := Lib.hid hL
  clear xA0 zA z2A
  have KA_40 := Lib.hid (KA_35.out.step b25)
  clear KA_35
  have KC_41 := Lib.hid (KC_36.out.step b25)
  clear KC_36
  have KV_42 := Lib.hid (KV_37.out.step b25)
  clear KV_37
  have KK_43 := Lib.hid (KK_38.out.step b25)
  clear KK_38
  have HB44 := Lib.hid (keep2 b25 HB39.out)
  clear HB39 b25
  replace HM := Lib.hid (HM.out.step (al u25 (.cells #[.slice ma L.length mc] 24)))
  have KA_45 := Lib.hid (KA_40.out.alloc (.cells #[.slice ma L.length mc] 24))
  clear KA_40
  have KC_46 := Lib.hid (KC_41.out.alloc (.cells #[.slice ma L.length mc] 24))
  clear KC_41
  have KV_47 := Lib.hid (KV_42.out.alloc (.cells #[.slice ma L.length mc] 24))
  clear KV_42
  have KK_48 := Lib.hid (KK_43.out.alloc (.cells #[.slice ma L.length mc] 24))
  clear KK_43
  have KM_49 := Lib.hid (Cs.new u25 (u25.heap.size) #[.slice ma L.length mc] 24 (by simp))
  have HB50 : Hid (Below w.heap.size w (u25.alloc (.cells #[.slice ma L.length mc] 24))) := HB44.out.alloc HB44.out.size _
  clear HB44
  obtain ⟨nn, hnn⟩ : ∃ nn, tg % 2147483647 = nn := ⟨_, rfl⟩
  rw [hnn] at H6 hL ⊢
  replace hnn := Lib.hid hnn
  clear t1
  have xC0 : (u25.alloc (.cells #[.slice ma L.length mc] 24)).cell? ⟨w.heap.size + 1, 0, none⟩ = some (.int .i64 id) := KC_46.out.c 0 rfl
  have xC1 : (u25.alloc (.cells #[.slice ma L.length mc] 24)).cell? ⟨w.heap.size + 1, 1, none⟩ = some (.slice a l.length cap) := KC_46.out.c 1 rfl
  have xC2 : (u25.alloc (.cells #[.slice ma L.length mc] 24)).cell? ⟨w.heap.size + 1, 2, none⟩ = some (.int .i64 tag) := KC_46.out.c 2 rfl
  have zC : w.heap.size + 1 < (u25.alloc (.cells #[.slice ma L.length mc] 24)).heap.size := KC_46.out.2.2
  have z2C : w.heap.size + 1 < (u25.alloc (.cells #[.slice ma L.length mc] 24)).heap.size + 1 := by omega
  have xV0 : (u25.alloc (.cells #[.slice ma L.length mc] 24)).cell? ⟨w.heap.size + 1 + 1, 0, none⟩ = some (.int .i64 ck) := KV_47.out.c 0 rfl
  have xV1 : (u25.alloc (.cells #[.slice ma L.length mc] 24)).cell? ⟨w.heap.size + 1 + 1, 1, none⟩ = some (.int .i64 cz) := KV_47.out.c 1 rfl
  have zV : w.heap.size + 1 + 1 < (u25.alloc (.cells #[.slice ma L.length mc] 24)).heap.size := KV_47.out.2.2
  have z2V : w.heap.size + 1 + 1 < (u25.alloc (.cells #[.slice ma L.length mc] 24)).heap.size + 1 := by omega
  go_wp2_with fail
  refine (narrow_any id tag ck cz _ l _ (H.out.step HB50.out)).mono ?_
  rintro e u26 ⟨vr, rfl, b26, hp1, hp2⟩
  obtain rfl := hp2 H7.out
  clear hp1 hp2
  obtain ⟨er, her⟩ : ∃ er, nrE id tag l ck cz = er := ⟨_, rfl⟩
  rw [her]
  have e0 : er ≠ 0 := fun q => H7.out (her.trans q)
  have e1 : (er != 0) = true := by simpa using e0
  have e2 : (er == 0) = false := by simpa using e0
  have e3 : decide (er = 0) = false := by simpa using e0
  clear her e0
  replace HM := Lib.hid (HM.out.step b26)
  clear xC0 xC1 xC2 zC z2C xV0 xV1 zV z2V
  have KA_51 := Lib.hid (KA_45.out.step b26)
  clear KA_45
  have KC_52 := Lib.hid (KC_46.out.step b26)
  clear KC_46
  have KV_53 := Lib.hid (KV_47.out.step b26)
  clear KV_47
  have KK_54 := Lib.hid (KK_48.out.step b26)
  clear KK_48
  have KM_55 := Lib.hid (KM_49.out.step b26)
  clear KM_49
  have HB56 := Lib.hid (keep2 b26 HB50.out)
  clear HB50 b26
  replace HM := Lib.hid (HM.out.step (al u26 (.cells #[.int .i64 0, .slice none 0 0, .int .i64 0] 27)))
  have KA_57 := Lib.hid (KA_51.out.alloc (.cells #[.int .i64 0, .slice none 0 0, .int .i64 0] 27))
  clear KA_51
  have KC_58 := Lib.hid (KC_52.out.alloc (.cells #[.int .i64 0, .slice none 0 0, .int .i64 0] 27))
  clear KC_52
  have KV_59 := Lib.hid (KV_53.out.alloc (.cells #[.int .i64 0, .slice none 0 0, .int .i64 0] 27))
  clear KV_53
  have KK_60 := Lib.hid (KK_54.out.alloc (.cells #[.int .i64 0, .slice none 0 0, .int .i64 0] 27))
  clear KK_54
  have KM_61 := Lib.hid (KM_55.out.alloc (.cells #[.int .i64 0, .slice none 0 0, .int .i64 0] 27))
  clear KM_55
  have KD_62 := Lib.hid (Cs.new u26 (u26.heap.size) #[.int .i64 0, .slice none 0 0, .int .i64 0] 27 (by simp))
  have HB63 : Hid (Below w.heap.size w (u26.alloc (.cells #[.int .i64 0, .slice none 0 0, .int .i64 0] 27))) := HB56.out.alloc HB56.out.size _
  clear HB56
  go_wp2
  go_ret
  exact ⟨rfl, HB63.out⟩
set_option maxRecDepth 100000 in
set_option maxHeartbeats 4000000 in
theorem nar_full_ok (va : Value) (m : List Int) (key id tag : Int) (sl : Value) (l : List Cv) (ck cz r v x t u tg : Int) (w : World) (ha : TgAt w va m) (h : CvsAt w sl l) (hg : 0 ≤ tg ∧ tg ≤ 4294967295) (hf : fwB m.length = true) (h1 : stB m = true) (h3 : l.length ≤ 20) (h4 : gnB key id tag l = true) (h5 : ckR key m id tag l r v x t u ≠ 1) (h6 : mgE m [tg % 2147483647] = 30) (h7 : nrE id tag l ck cz = 0) : Calls Try.prog 7 #[.agg #[va], .int .i64 key, .agg #[.int .i64 id, sl, .int .i64 tag], .agg #[.int .i64 ck, .int .i64 cz], .agg #[.int .i64 r, .int .i64 v, .int .i64 x, .int .i64 t], .int .i64 u, .int .u32 tg] w fun e w' => e = .returned (.bool true) ∧ Below w.heap.size w w' := by
  have H := Lib.hid h
  have HA := Lib.hid ha
  have FW := Lib.hid hf
  clear hf
  obtain ⟨a, cap, rfl, -, hm, -⟩ := h
  obtain ⟨⟨aa, ac, rfl, ham, -⟩, -⟩ := ha
  unfold maxLen at hm ham
  have S1 := Lib.hid h1
  clear h1
  have g3 : decide (((l).length : Int) > 20) = false := by simp; omega
  have g3' : decide ((20 : Int) < ((l).length : Int)) = false := by simp; omega
  have GN := Lib.hid h4
  clear h4
  have H5 := Lib.hid h5
  clear h5
  have H6 := Lib.hid h6
  clear h6
  have H7 := Lib.hid h7
  clear h7
  have HB0 := Lib.hid (Below.refl w.heap.size w)
  go_enter Try.func7, Try.ntmps7
  have KA_1 := Lib.hid (Cs.new w (w.heap.size) #[.slice aa m.length ac] 24 (by simp))
  have HB2 : Hid (Below w.heap.size w (w.alloc (.cells #[.slice aa m.length ac] 24))) := HB0.out.alloc HB0.out.size _
  clear HB0
  have KA_3 := Lib.hid (KA_1.out.alloc (.cells #[.int .i64 id, .slice a l.length cap, .int .i64 tag] 27))
  clear KA_1
  have KC_4 := Lib.hid (Cs.new (w.alloc (.cells #[.slice aa m.length ac] 24)) (w.heap.size + 1) #[.int .i64 id, .slice a l.length cap, .int .i64 tag] 27 (by simp))
  have HB5 : Hid (Below w.heap.size w ((w.alloc (.cells #[.slice aa m.length ac] 24)).alloc (.cells #[.int .i64 id, .slice a l.length cap, .int .i64 tag] 27))) := HB2.out.alloc HB2.out.size _
  clear HB2
  have KA_6 := Lib.hid (KA_3.out.alloc (.cells #[.int .i64 ck, .int .i64 cz] 48))
  clear KA_3
  have KC_7 := Lib.hid (KC_4.out.alloc (.cells #[.int .i64 ck, .int .i64 cz] 48))
  clear KC_4
  have KV_8 := Lib.hid (Cs.new ((w.alloc (.cells #[.slice aa m.length ac] 24)).alloc (.cells #[.int .i64 id, .slice a l.length cap, .int .i64 tag] 27)) (w.heap.size + 1 + 1) #[.int .i64 ck, .int .i64 cz] 48 (by simp))
  have HB9 : Hid (Below w.heap.size w (((w.alloc (.cells #[.slice aa m.length ac] 24)).alloc (.cells #[.int .i64 id, .slice a l.length cap, .int .i64 tag] 27)).alloc (.cells #[.int .i64 ck, .int .i64 cz] 48))) := HB5.out.alloc HB5.out.size _
  clear HB5
  have KA_10 := Lib.hid (KA_6.out.alloc (.cells #[.int .i64 r, .int .i64 v, .int .i64 x, .int .i64 t] 29))
  clear KA_6
  have KC_11 := Lib.hid (KC_7.out.alloc (.cells #[.int .i64 r, .int .i64 v, .int .i64 x, .int .i64 t] 29))
  clear KC_7
  have KV_12 := Lib.hid (KV_8.out.alloc (.cells #[.int .i64 r, .int .i64 v, .int .i64 x, .int .i64 t] 29))
  clear KV_8
  have KK_13 := Lib.hid (Cs.new (((w.alloc (.cells #[.slice aa m.length ac] 24)).alloc (.cells #[.int .i64 id, .slice a l.length cap, .int .i64 tag] 27)).alloc (.cells #[.int .i64 ck, .int .i64 cz] 48)) (w.heap.size + 1 + 1 + 1) #[.int .i64 r, .int .i64 v, .int .i64 x, .int .i64 t] 29 (by simp))
  have HB14 : Hid (Below w.heap.size w ((((w.alloc (.cells #[.slice aa m.length ac] 24)).alloc (.cells #[.int .i64 id, .slice a l.length cap, .int .i64 tag] 27)).alloc (.cells #[.int .i64 ck, .int .i64 cz] 48)).alloc (.cells #[.int .i64 r, .int .i64 v, .int .i64 x, .int .i64 t] 29))) := HB9.out.alloc HB9.out.size _
  clear HB9
  go_wp2_with fail
  refine (head_any _).mono ?_
  rintro e u1 ⟨rfl, b1⟩
  have KA_15 := Lib.hid (KA_10.out.step b1)
  clear KA_10
  have KC_16 := Lib.hid (KC_11.out.step b1)
  clear KC_11
  have KV_17 := Lib.hid (KV_12.out.step b1)
  clear KV_12
  have KK_18 := Lib.hid (KK_13.out.step b1)
  clear KK_13
  have HB19 := Lib.hid (keep2 b1 HB14.out)
  clear HB14 b1
  have xA0 : u1.cell? ⟨w.heap.size, 0, none⟩ = some (.slice aa m.length ac) := KA_15.out.c 0 rfl
  have zA : w.heap.size < u1.heap.size := KA_15.out.2.2
  have z2A : w.heap.size < u1.heap.size + 1 := by omega
  go_wp2_with fail
  have KA_20 := Lib.hid (KA_15.out.alloc (.cells #[.slice aa m.length ac] 24))
  clear KA_15
  have KC_21 := Lib.hid (KC_16.out.alloc (.cells #[.slice aa m.length ac] 24))
  clear KC_16
  have KV_22 := Lib.hid (KV_17.out.alloc (.cells #[.slice aa m.length ac] 24))
  clear KV_17
  have KK_23 := Lib.hid (KK_18.out.alloc (.cells #[.slice aa m.length ac] 24))
  clear KK_18
  have HB24 : Hid (Below w.heap.size w (u1.alloc (.cells #[.slice aa m.length ac] 24))) := HB19.out.alloc HB19.out.size _
  clear HB19
  refine (few_any _ [(aa, m.length, ac)] _ (sls_one u1 aa m.length ac u1.heap.size rfl) (by simp) (by intro q hq; simp at hq; subst hq; unfold maxLen; omega)).mono ?_
  rintro e w' ⟨rfl, rfl⟩
  rw [show ([(aa, m.length, ac)] : List (Option Addr × Nat × Nat)).all (fun q => fwB q.2.1) = true from by simp only [List.all_cons, List.all_nil, FW.out]; rfl]
  clear xA0 zA z2A
  have xA0 : (u1.alloc (.cells #[.slice aa m.length ac] 24)).cell? ⟨w.heap.size, 0, none⟩ = some (.slice aa m.length ac) := KA_20.out.c 0 rfl
  have zA : w.heap.size < (u1.alloc (.cells #[.slice aa m.length ac] 24)).heap.size := KA_20.out.2.2
  have z2A : w.heap.size < (u1.alloc (.cells #[.slice aa m.length ac] 24)).heap.size + 1 := by omega
  go_wp2_with fail
  refine (rvalid_any _ m _ (HA.out.step HB24.out).1).mono ?_
  rintro e u2 ⟨rfl, b2⟩
  clear xA0 zA z2A
  have KA_25 := Lib.hid (KA_20.out.step b2)
  clear KA_20
  have KC_26 := Lib.hid (KC_21.out.step b2)
  clear KC_21
  have KV_27 := Lib.hid (KV_22.out.step b2)
  clear KV_22
  have KK_28 := Lib.hid (KK_23.out.step b2)
  clear KK_23
  have HB29 := Lib.hid (keep2 b2 HB24.out)
  clear HB24 b2
  rw [S1.out]
  have xC0 : u2.cell? ⟨w.heap.size + 1, 0, none⟩ = some (.int .i64 id) := KC_26.out.c 0 rfl
  have xC1 : u2.cell? ⟨w.heap.size + 1, 1, none⟩ = some (.slice a l.length cap) := KC_26.out.c 1 rfl
  have xC2 : u2.cell? ⟨w.heap.size + 1, 2, none⟩ = some (.int .i64 tag) := KC_26.out.c 2 rfl
  have zC : w.heap.size + 1 < u2.heap.size := KC_26.out.2.2
  have z2C : w.heap.size + 1 < u2.heap.size + 1 := by omega
  go_wp2_with fail
  refine (genuine_any key id tag _ l _ (H.out.step HB29.out)).mono ?_
  rintro e u3 ⟨rfl, b3⟩
  clear xC0 xC1 xC2 zC z2C
  have KA_30 := Lib.hid (KA_25.out.step b3)
  clear KA_25
  have KC_31 := Lib.hid (KC_26.out.step b3)
  clear KC_26
  have KV_32 := Lib.hid (KV_27.out.step b3)
  clear KV_27
  have KK_33 := Lib.hid (KK_28.out.step b3)
  clear KK_28
  have HB34 := Lib.hid (keep2 b3 HB29.out)
  clear HB29 b3
  rw [GN.out]
  have xA0 : u3.cell? ⟨w.heap.size, 0, none⟩ = some (.slice aa m.length ac) := KA_30.out.c 0 rfl
  have zA : w.heap.size < u3.heap.size := KA_30.out.2.2
  have z2A : w.heap.size < u3.heap.size + 1 := by omega
  have xC0 : u3.cell? ⟨w.heap.size + 1, 0, none⟩ = some (.int .i64 id) := KC_31.out.c 0 rfl
  have xC1 : u3.cell? ⟨w.heap.size + 1, 1, none⟩ = some (.slice a l.length cap) := KC_31.out.c 1 rfl
  have xC2 : u3.cell? ⟨w.heap.size + 1, 2, none⟩ = some (.int .i64 tag) := KC_31.out.c 2 rfl
  have zC : w.heap.size + 1 < u3.heap.size := KC_31.out.2.2
  have z2C : w.heap.size + 1 < u3.heap.size + 1 := by omega
  have xK0 : u3.cell? ⟨w.heap.size + 1 + 1 + 1, 0, none⟩ = some (.int .i64 r) := KK_33.out.c 0 rfl
  have xK1 : u3.cell? ⟨w.heap.size + 1 + 1 + 1, 1, none⟩ = some (.int .i64 v) := KK_33.out.c 1 rfl
  have xK2 : u3.cell? ⟨w.heap.size + 1 + 1 + 1, 2, none⟩ = some (.int .i64 x) := KK_33.out.c 2 rfl
  have xK3 : u3.cell? ⟨w.heap.size + 1 + 1 + 1, 3, none⟩ = some (.int .i64 t) := KK_33.out.c 3 rfl
  have zK : w.heap.size + 1 + 1 + 1 < u3.heap.size := KK_33.out.2.2
  have z2K : w.heap.size + 1 + 1 + 1 < u3.heap.size + 1 := by omega
  go_wp2_with fail
  refine (chk_any key id tag r v x t u _ _ m l _ (H.out.step HB34.out) (HA.out.step HB34.out).1).mono ?_
  rintro e u24 ⟨rfl, b24⟩
  obtain ⟨E, hE⟩ : ∃ E, ckR key m id tag l r v x t u = E := ⟨_, rfl⟩
  rw [hE]
  replace hE := Lib.hid hE
  clear xA0 zA z2A xC0 xC1 xC2 zC z2C xK0 xK1 xK2 xK3 zK z2K
  have KA_35 := Lib.hid (KA_30.out.step b24)
  clear KA_30
  have KC_36 := Lib.hid (KC_31.out.step b24)
  clear KC_31
  have KV_37 := Lib.hid (KV_32.out.step b24)
  clear KV_32
  have KK_38 := Lib.hid (KK_33.out.step b24)
  clear KK_33
  have HB39 := Lib.hid (keep2 b24 HB34.out)
  clear HB34 b24
  have n1 : E ≠ 1 := fun q => H5.out (hE.out.trans q)
  have n2 : (E == 1) = false := by simpa using n1
  have n3 : decide (E = 1) = false := by simpa using n1
  clear n1
  have N1 : Hid (E ≠ 1) := Lib.hid (fun q => H5.out (hE.out.trans q))
  have t1 : wrap64 (tg.tmod 2147483647) = tg % 2147483647 := by rw [Int.tmod_eq_emod_of_nonneg hg.1]; exact IntWalk.wrap64_in _ (by omega)
  have xA0 : u24.cell? ⟨w.heap.size, 0, none⟩ = some (.slice aa m.length ac) := KA_35.out.c 0 rfl
  have zA : w.heap.size < u24.heap.size := KA_35.out.2.2
  have z2A : w.heap.size < u24.heap.size + 1 := by omega
  go_wp2_with fail
  refine (add_any _ m (tg % 2147483647) _ (HA.out.step HB39.out)).mono ?_
  rintro e u25 ⟨⟨um, rfl, hum⟩, b25⟩
  rw [H6.out]
  obtain ⟨L, hL⟩ : ∃ L, mgL m [tg % 2147483647] = L := ⟨_, rfl⟩
  obtain ⟨ma, mc, rfl, htm⟩ := row_tg hum hL rfl
  have HM := Lib.hid htm
  clear hum htm
  replace hL := Lib.hid hL
  clear xA0 zA z2A
  have KA_40 := Lib.hid (KA_35.out.step b25)
  clear KA_35
  have KC_41 := Lib.hid (KC_36.out.step b25)
  clear KC_36
  have KV_42 := Lib.hid (KV_37.out.step b25)
  clear KV_37
  have KK_43 := Lib.hid (KK_38.out.step b25)
  clear KK_38
  have HB44 := Lib.hid (keep2 b25 HB39.out)
  clear HB39 b25
  replace HM := Lib.hid (HM.out.step (al u25 (.cells #[.slice ma L.length mc] 24)))
  have KA_45 := Lib.hid (KA_40.out.alloc (.cells #[.slice ma L.length mc] 24))
  clear KA_40
  have KC_46 := Lib.hid (KC_41.out.alloc (.cells #[.slice ma L.length mc] 24))
  clear KC_41
  have KV_47 := Lib.hid (KV_42.out.alloc (.cells #[.slice ma L.length mc] 24))
  clear KV_42
  have KK_48 := Lib.hid (KK_43.out.alloc (.cells #[.slice ma L.length mc] 24))
  clear KK_43
  have KM_49 := Lib.hid (Cs.new u25 (u25.heap.size) #[.slice ma L.length mc] 24 (by simp))
  have HB50 : Hid (Below w.heap.size w (u25.alloc (.cells #[.slice ma L.length mc] 24))) := HB44.out.alloc HB44.out.size _
  clear HB44
  obtain ⟨nn, hnn⟩ : ∃ nn, tg % 2147483647 = nn := ⟨_, rfl⟩
  rw [hnn] at H6 hL ⊢
  replace hnn := Lib.hid hnn
  clear t1
  have xC0 : (u25.alloc (.cells #[.slice ma L.length mc] 24)).cell? ⟨w.heap.size + 1, 0, none⟩ = some (.int .i64 id) := KC_46.out.c 0 rfl
  have xC1 : (u25.alloc (.cells #[.slice ma L.length mc] 24)).cell? ⟨w.heap.size + 1, 1, none⟩ = some (.slice a l.length cap) := KC_46.out.c 1 rfl
  have xC2 : (u25.alloc (.cells #[.slice ma L.length mc] 24)).cell? ⟨w.heap.size + 1, 2, none⟩ = some (.int .i64 tag) := KC_46.out.c 2 rfl
  have zC : w.heap.size + 1 < (u25.alloc (.cells #[.slice ma L.length mc] 24)).heap.size := KC_46.out.2.2
  have z2C : w.heap.size + 1 < (u25.alloc (.cells #[.slice ma L.length mc] 24)).heap.size + 1 := by omega
  have xV0 : (u25.alloc (.cells #[.slice ma L.length mc] 24)).cell? ⟨w.heap.size + 1 + 1, 0, none⟩ = some (.int .i64 ck) := KV_47.out.c 0 rfl
  have xV1 : (u25.alloc (.cells #[.slice ma L.length mc] 24)).cell? ⟨w.heap.size + 1 + 1, 1, none⟩ = some (.int .i64 cz) := KV_47.out.c 1 rfl
  have zV : w.heap.size + 1 + 1 < (u25.alloc (.cells #[.slice ma L.length mc] 24)).heap.size := KV_47.out.2.2
  have z2V : w.heap.size + 1 + 1 < (u25.alloc (.cells #[.slice ma L.length mc] 24)).heap.size + 1 := by omega
  go_wp2_with fail
  refine (narrow_any id tag ck cz _ l _ (H.out.step HB50.out)).mono ?_
  rintro e u26 ⟨vr, rfl, b26, hp1, hp2⟩
  obtain ⟨su, rfl, hs⟩ := hp1 H7.out
  clear hp1 hp2
  rw [H7.out]
  have HS := Lib.hid hs
  obtain ⟨sa, sc, rfl, -⟩ := hs
  have hln : (l ++ [(⟨ck, cz⟩ : Cv)]).length = l.length + 1 := by simp
  rw [hln] at HS ⊢
  clear hln
  obtain ⟨T2, hT2⟩ : ∃ T2, tgN tag ⟨ck, cz⟩ = T2 := ⟨_, rfl⟩
  rw [hT2]
  replace hT2 := Lib.hid hT2
  replace HM := Lib.hid (HM.out.step b26)
  clear xC0 xC1 xC2 zC z2C xV0 xV1 zV z2V
  have KA_51 := Lib.hid (KA_45.out.step b26)
  clear KA_45
  have KC_52 := Lib.hid (KC_46.out.step b26)
  clear KC_46
  have KV_53 := Lib.hid (KV_47.out.step b26)
  clear KV_47
  have KK_54 := Lib.hid (KK_48.out.step b26)
  clear KK_48
  have KM_55 := Lib.hid (KM_49.out.step b26)
  clear KM_49
  have HB56 := Lib.hid (keep2 b26 HB50.out)
  clear HB50 b26
  replace HM := Lib.hid (HM.out.step (al u26 (.cells #[.int .i64 id, .slice sa (l.length + 1) sc, .int .i64 T2] 27)))
  replace HS := Lib.hid (HS.out.step (al u26 (.cells #[.int .i64 id, .slice sa (l.length + 1) sc, .int .i64 T2] 27)))
  have KA_57 := Lib.hid (KA_51.out.alloc (.cells #[.int .i64 id, .slice sa (l.length + 1) sc, .int .i64 T2] 27))
  clear KA_51
  have KC_58 := Lib.hid (KC_52.out.alloc (.cells #[.int .i64 id, .slice sa (l.length + 1) sc, .int .i64 T2] 27))
  clear KC_52
  have KV_59 := Lib.hid (KV_53.out.alloc (.cells #[.int .i64 id, .slice sa (l.length + 1) sc, .int .i64 T2] 27))
  clear KV_53
  have KK_60 := Lib.hid (KK_54.out.alloc (.cells #[.int .i64 id, .slice sa (l.length + 1) sc, .int .i64 T2] 27))
  clear KK_54
  have KM_61 := Lib.hid (KM_55.out.alloc (.cells #[.int .i64 id, .slice sa (l.length + 1) sc, .int .i64 T2] 27))
  clear KM_55
  have KD_62 := Lib.hid (Cs.new u26 (u26.heap.size) #[.int .i64 id, .slice sa (l.length + 1) sc, .int .i64 T2] 27 (by simp))
  have HB63 : Hid (Below w.heap.size w (u26.alloc (.cells #[.int .i64 id, .slice sa (l.length + 1) sc, .int .i64 T2] 27))) := HB56.out.alloc HB56.out.size _
  clear HB56
  have xA0 : (u26.alloc (.cells #[.int .i64 id, .slice sa (l.length + 1) sc, .int .i64 T2] 27)).cell? ⟨w.heap.size, 0, none⟩ = some (.slice aa m.length ac) := KA_57.out.c 0 rfl
  have zA : w.heap.size < (u26.alloc (.cells #[.int .i64 id, .slice sa (l.length + 1) sc, .int .i64 T2] 27)).heap.size := KA_57.out.2.2
  have z2A : w.heap.size < (u26.alloc (.cells #[.int .i64 id, .slice sa (l.length + 1) sc, .int .i64 T2] 27)).heap.size + 1 := by omega
  have xK0 : (u26.alloc (.cells #[.int .i64 id, .slice sa (l.length + 1) sc, .int .i64 T2] 27)).cell? ⟨w.heap.size + 1 + 1 + 1, 0, none⟩ = some (.int .i64 r) := KK_60.out.c 0 rfl
  have xK1 : (u26.alloc (.cells #[.int .i64 id, .slice sa (l.length + 1) sc, .int .i64 T2] 27)).cell? ⟨w.heap.size + 1 + 1 + 1, 1, none⟩ = some (.int .i64 v) := KK_60.out.c 1 rfl
  have xK2 : (u26.alloc (.cells #[.int .i64 id, .slice sa (l.length + 1) sc, .int .i64 T2] 27)).cell? ⟨w.heap.size + 1 + 1 + 1, 2, none⟩ = some (.int .i64 x) := KK_60.out.c 2 rfl
  have xK3 : (u26.alloc (.cells #[.int .i64 id, .slice sa (l.length + 1) sc, .int .i64 T2] 27)).cell? ⟨w.heap.size + 1 + 1 + 1, 3, none⟩ = some (.int .i64 t) := KK_60.out.c 3 rfl
  have zK : w.heap.size + 1 + 1 + 1 < (u26.alloc (.cells #[.int .i64 id, .slice sa (l.length + 1) sc, .int .i64 T2] 27)).heap.size := KK_60.out.2.2
  have z2K : w.heap.size + 1 + 1 + 1 < (u26.alloc (.cells #[.int .i64 id, .slice sa (l.length + 1) sc, .int .i64 T2] 27)).heap.size + 1 := by omega
  have xD0 : (u26.alloc (.cells #[.int .i64 id, .slice sa (l.length + 1) sc, .int .i64 T2] 27)).cell? ⟨u26.heap.size, 0, none⟩ = some (.int .i64 id) := KD_62.out.c 0 rfl
  have xD1 : (u26.alloc (.cells #[.int .i64 id, .slice sa (l.length + 1) sc, .int .i64 T2] 27)).cell? ⟨u26.heap.size, 1, none⟩ = some (.slice sa (l.length + 1) sc) := KD_62.out.c 1 rfl
  have xD2 : (u26.alloc (.cells #[.int .i64 id, .slice sa (l.length + 1) sc, .int .i64 T2] 27)).cell? ⟨u26.heap.size, 2, none⟩ = some (.int .i64 T2) := KD_62.out.c 2 rfl
  have zD : u26.heap.size < (u26.alloc (.cells #[.int .i64 id, .slice sa (l.length + 1) sc, .int .i64 T2] 27)).heap.size := KD_62.out.2.2
  have z2D : u26.heap.size < (u26.alloc (.cells #[.int .i64 id, .slice sa (l.length + 1) sc, .int .i64 T2] 27)).heap.size + 1 := by omega
  go_wp2_with fail
  refine (chk_any key id T2 r v x t u _ _ m (l ++ [⟨ck, cz⟩]) _ HS.out (HA.out.step HB63.out).1).mono ?_
  rintro e u27 ⟨rfl, b27⟩
  obtain ⟨Hh, hH⟩ : ∃ Hh, ckR key m id T2 (l ++ [⟨ck, cz⟩]) r v x t u = Hh := ⟨_, rfl⟩
  rw [hH]
  replace HM := Lib.hid (HM.out.step b27)
  replace HS := Lib.hid (HS.out.step b27)
  clear xA0 zA z2A xK0 xK1 xK2 xK3 zK z2K xD0 xD1 xD2 zD z2D
  have KA_64 := Lib.hid (KA_57.out.step b27)
  clear KA_57
  have KC_65 := Lib.hid (KC_58.out.step b27)
  clear KC_58
  have KV_66 := Lib.hid (KV_59.out.step b27)
  clear KV_59
  have KK_67 := Lib.hid (KK_60.out.step b27)
  clear KK_60
  have KM_68 := Lib.hid (KM_61.out.step b27)
  clear KM_61
  have KD_69 := Lib.hid (KD_62.out.step b27)
  clear KD_62
  have HB70 := Lib.hid (keep2 b27 HB63.out)
  clear HB63 b27
  have HNC := nar_cases (c := ⟨ck, cz⟩) (H := Hh) S1.out GN.out H7.out hE.out N1.out (by rw [hT2.out]; exact hH)
  rw [hT2.out] at HNC
  clear hH
  rcases HNC with ⟨rfl, rfl⟩ | ⟨k1, rfl, k3⟩ | ⟨k1, k2⟩
  · go_wp2
    go_ret
    exact ⟨rfl, HB70.out⟩
  · have K3 := Lib.hid k3
    clear k3
    have kk1 : (E != 21) = true := by simpa using k1
    have kk2 : (E == 21) = false := by simpa using k1
    have kk3 : decide (E = 21) = false := by simpa using k1
    clear k1
    have xA0 : u27.cell? ⟨w.heap.size, 0, none⟩ = some (.slice aa m.length ac) := KA_64.out.c 0 rfl
    have zA : w.heap.size < u27.heap.size := KA_64.out.2.2
    have z2A : w.heap.size < u27.heap.size + 1 := by omega
    have xD0 : u27.cell? ⟨u26.heap.size, 0, none⟩ = some (.int .i64 id) := KD_69.out.c 0 rfl
    have xD1 : u27.cell? ⟨u26.heap.size, 1, none⟩ = some (.slice sa (l.length + 1) sc) := KD_69.out.c 1 rfl
    have xD2 : u27.cell? ⟨u26.heap.size, 2, none⟩ = some (.int .i64 T2) := KD_69.out.c 2 rfl
    have zD : u26.heap.size < u27.heap.size := KD_69.out.2.2
    have z2D : u26.heap.size < u27.heap.size + 1 := by omega
    go_wp2_with fail
    refine (has2_any _ m T2 _ (HA.out.step HB70.out).1 (by rw [← hT2.out]; have := Dg_bd [tag, 2, ck, cz]; exact ⟨by unfold tgN; simp only; omega, by unfold tgN; simp only; omega⟩)).mono ?_
    rintro e u28 ⟨rfl, b28⟩
    rw [K3.out]
    replace HM := Lib.hid (HM.out.step b28)
    replace HS := Lib.hid (HS.out.step b28)
    clear xA0 zA z2A xD0 xD1 xD2 zD z2D
    have KA_71 := Lib.hid (KA_64.out.step b28)
    clear KA_64
    have KC_72 := Lib.hid (KC_65.out.step b28)
    clear KC_65
    have KV_73 := Lib.hid (KV_66.out.step b28)
    clear KV_66
    have KK_74 := Lib.hid (KK_67.out.step b28)
    clear KK_67
    have KM_75 := Lib.hid (KM_68.out.step b28)
    clear KM_68
    have KD_76 := Lib.hid (KD_69.out.step b28)
    clear KD_69
    have HB77 := Lib.hid (keep2 b28 HB70.out)
    clear HB70 b28
    go_wp2
    go_ret
    exact ⟨rfl, HB77.out⟩
  · have p1 : (E != 21) = true := by simpa using k1
    have p2 : (E == 21) = false := by simpa using k1
    have p3 : decide (E = 21) = false := by simpa using k1
    have q1 : (Hh != 21) = true := by simpa using k2
    have q2 : (Hh == 21) = false := by simpa using k2
    have q3 : decide (Hh = 21) = false := by simpa using k2
    clear k1 k2
    go_wp2
    go_ret
    exact ⟨rfl, HB70.out⟩
set_option maxRecDepth 100000 in
set_option maxHeartbeats 4000000 in
theorem nar_zero_bad (va : Value) (m : List Int) (key id tag : Int) (sl : Value) (l : List Cv) (ck cz r v x t u tg : Int) (w : World) (ha : TgAt w va m) (h : CvsAt w sl l) (hg : 0 ≤ tg ∧ tg ≤ 4294967295) (hf : fwB m.length = true) (h1 : stB m = true) (h3 : l.length ≤ 20) (h4 : gnB key id tag l = true) (h5 : ckR key m id tag l r v x t u ≠ 1) (h6 : mgE m [tg % 2147483647] = 0) (h7 : nrE id tag l ck cz ≠ 0) : Calls Try.prog 7 #[.agg #[va], .int .i64 key, .agg #[.int .i64 id, sl, .int .i64 tag], .agg #[.int .i64 ck, .int .i64 cz], .agg #[.int .i64 r, .int .i64 v, .int .i64 x, .int .i64 t], .int .i64 u, .int .u32 tg] w fun e w' => e = .returned (.bool true) ∧ Below w.heap.size w w' := by
  have H := Lib.hid h
  have HA := Lib.hid ha
  have FW := Lib.hid hf
  clear hf
  obtain ⟨a, cap, rfl, -, hm, -⟩ := h
  obtain ⟨⟨aa, ac, rfl, ham, -⟩, -⟩ := ha
  unfold maxLen at hm ham
  have S1 := Lib.hid h1
  clear h1
  have g3 : decide (((l).length : Int) > 20) = false := by simp; omega
  have g3' : decide ((20 : Int) < ((l).length : Int)) = false := by simp; omega
  have GN := Lib.hid h4
  clear h4
  have H5 := Lib.hid h5
  clear h5
  have H6 := Lib.hid h6
  clear h6
  have H7 := Lib.hid h7
  clear h7
  have HB0 := Lib.hid (Below.refl w.heap.size w)
  go_enter Try.func7, Try.ntmps7
  have KA_1 := Lib.hid (Cs.new w (w.heap.size) #[.slice aa m.length ac] 24 (by simp))
  have HB2 : Hid (Below w.heap.size w (w.alloc (.cells #[.slice aa m.length ac] 24))) := HB0.out.alloc HB0.out.size _
  clear HB0
  have KA_3 := Lib.hid (KA_1.out.alloc (.cells #[.int .i64 id, .slice a l.length cap, .int .i64 tag] 27))
  clear KA_1
  have KC_4 := Lib.hid (Cs.new (w.alloc (.cells #[.slice aa m.length ac] 24)) (w.heap.size + 1) #[.int .i64 id, .slice a l.length cap, .int .i64 tag] 27 (by simp))
  have HB5 : Hid (Below w.heap.size w ((w.alloc (.cells #[.slice aa m.length ac] 24)).alloc (.cells #[.int .i64 id, .slice a l.length cap, .int .i64 tag] 27))) := HB2.out.alloc HB2.out.size _
  clear HB2
  have KA_6 := Lib.hid (KA_3.out.alloc (.cells #[.int .i64 ck, .int .i64 cz] 48))
  clear KA_3
  have KC_7 := Lib.hid (KC_4.out.alloc (.cells #[.int .i64 ck, .int .i64 cz] 48))
  clear KC_4
  have KV_8 := Lib.hid (Cs.new ((w.alloc (.cells #[.slice aa m.length ac] 24)).alloc (.cells #[.int .i64 id, .slice a l.length cap, .int .i64 tag] 27)) (w.heap.size + 1 + 1) #[.int .i64 ck, .int .i64 cz] 48 (by simp))
  have HB9 : Hid (Below w.heap.size w (((w.alloc (.cells #[.slice aa m.length ac] 24)).alloc (.cells #[.int .i64 id, .slice a l.length cap, .int .i64 tag] 27)).alloc (.cells #[.int .i64 ck, .int .i64 cz] 48))) := HB5.out.alloc HB5.out.size _
  clear HB5
  have KA_10 := Lib.hid (KA_6.out.alloc (.cells #[.int .i64 r, .int .i64 v, .int .i64 x, .int .i64 t] 29))
  clear KA_6
  have KC_11 := Lib.hid (KC_7.out.alloc (.cells #[.int .i64 r, .int .i64 v, .int .i64 x, .int .i64 t] 29))
  clear KC_7
  have KV_12 := Lib.hid (KV_8.out.alloc (.cells #[.int .i64 r, .int .i64 v, .int .i64 x, .int .i64 t] 29))
  clear KV_8
  have KK_13 := Lib.hid (Cs.new (((w.alloc (.cells #[.slice aa m.length ac] 24)).alloc (.cells #[.int .i64 id, .slice a l.length cap, .int .i64 tag] 27)).alloc (.cells #[.int .i64 ck, .int .i64 cz] 48)) (w.heap.size + 1 + 1 + 1) #[.int .i64 r, .int .i64 v, .int .i64 x, .int .i64 t] 29 (by simp))
  have HB14 : Hid (Below w.heap.size w ((((w.alloc (.cells #[.slice aa m.length ac] 24)).alloc (.cells #[.int .i64 id, .slice a l.length cap, .int .i64 tag] 27)).alloc (.cells #[.int .i64 ck, .int .i64 cz] 48)).alloc (.cells #[.int .i64 r, .int .i64 v, .int .i64 x, .int .i64 t] 29))) := HB9.out.alloc HB9.out.size _
  clear HB9
  go_wp2_with fail
  refine (head_any _).mono ?_
  rintro e u1 ⟨rfl, b1⟩
  have KA_15 := Lib.hid (KA_10.out.step b1)
  clear KA_10
  have KC_16 := Lib.hid (KC_11.out.step b1)
  clear KC_11
  have KV_17 := Lib.hid (KV_12.out.step b1)
  clear KV_12
  have KK_18 := Lib.hid (KK_13.out.step b1)
  clear KK_13
  have HB19 := Lib.hid (keep2 b1 HB14.out)
  clear HB14 b1
  have xA0 : u1.cell? ⟨w.heap.size, 0, none⟩ = some (.slice aa m.length ac) := KA_15.out.c 0 rfl
  have zA : w.heap.size < u1.heap.size := KA_15.out.2.2
  have z2A : w.heap.size < u1.heap.size + 1 := by omega
  go_wp2_with fail
  have KA_20 := Lib.hid (KA_15.out.alloc (.cells #[.slice aa m.length ac] 24))
  clear KA_15
  have KC_21 := Lib.hid (KC_16.out.alloc (.cells #[.slice aa m.length ac] 24))
  clear KC_16
  have KV_22 := Lib.hid (KV_17.out.alloc (.cells #[.slice aa m.length ac] 24))
  clear KV_17
  have KK_23 := Lib.hid (KK_18.out.alloc (.cells #[.slice aa m.length ac] 24))
  clear KK_18
  have HB24 : Hid (Below w.heap.size w (u1.alloc (.cells #[.slice aa m.length ac] 24))) := HB19.out.alloc HB19.out.size _
  clear HB19
  refine (few_any _ [(aa, m.length, ac)] _ (sls_one u1 aa m.length ac u1.heap.size rfl) (by simp) (by intro q hq; simp at hq; subst hq; unfold maxLen; omega)).mono ?_
  rintro e w' ⟨rfl, rfl⟩
  rw [show ([(aa, m.length, ac)] : List (Option Addr × Nat × Nat)).all (fun q => fwB q.2.1) = true from by simp only [List.all_cons, List.all_nil, FW.out]; rfl]
  clear xA0 zA z2A
  have xA0 : (u1.alloc (.cells #[.slice aa m.length ac] 24)).cell? ⟨w.heap.size, 0, none⟩ = some (.slice aa m.length ac) := KA_20.out.c 0 rfl
  have zA : w.heap.size < (u1.alloc (.cells #[.slice aa m.length ac] 24)).heap.size := KA_20.out.2.2
  have z2A : w.heap.size < (u1.alloc (.cells #[.slice aa m.length ac] 24)).heap.size + 1 := by omega
  go_wp2_with fail
  refine (rvalid_any _ m _ (HA.out.step HB24.out).1).mono ?_
  rintro e u2 ⟨rfl, b2⟩
  clear xA0 zA z2A
  have KA_25 := Lib.hid (KA_20.out.step b2)
  clear KA_20
  have KC_26 := Lib.hid (KC_21.out.step b2)
  clear KC_21
  have KV_27 := Lib.hid (KV_22.out.step b2)
  clear KV_22
  have KK_28 := Lib.hid (KK_23.out.step b2)
  clear KK_23
  have HB29 := Lib.hid (keep2 b2 HB24.out)
  clear HB24 b2
  rw [S1.out]
  have xC0 : u2.cell? ⟨w.heap.size + 1, 0, none⟩ = some (.int .i64 id) := KC_26.out.c 0 rfl
  have xC1 : u2.cell? ⟨w.heap.size + 1, 1, none⟩ = some (.slice a l.length cap) := KC_26.out.c 1 rfl
  have xC2 : u2.cell? ⟨w.heap.size + 1, 2, none⟩ = some (.int .i64 tag) := KC_26.out.c 2 rfl
  have zC : w.heap.size + 1 < u2.heap.size := KC_26.out.2.2
  have z2C : w.heap.size + 1 < u2.heap.size + 1 := by omega
  go_wp2_with fail
  refine (genuine_any key id tag _ l _ (H.out.step HB29.out)).mono ?_
  rintro e u3 ⟨rfl, b3⟩
  clear xC0 xC1 xC2 zC z2C
  have KA_30 := Lib.hid (KA_25.out.step b3)
  clear KA_25
  have KC_31 := Lib.hid (KC_26.out.step b3)
  clear KC_26
  have KV_32 := Lib.hid (KV_27.out.step b3)
  clear KV_27
  have KK_33 := Lib.hid (KK_28.out.step b3)
  clear KK_28
  have HB34 := Lib.hid (keep2 b3 HB29.out)
  clear HB29 b3
  rw [GN.out]
  have xA0 : u3.cell? ⟨w.heap.size, 0, none⟩ = some (.slice aa m.length ac) := KA_30.out.c 0 rfl
  have zA : w.heap.size < u3.heap.size := KA_30.out.2.2
  have z2A : w.heap.size < u3.heap.size + 1 := by omega
  have xC0 : u3.cell? ⟨w.heap.size + 1, 0, none⟩ = some (.int .i64 id) := KC_31.out.c 0 rfl
  have xC1 : u3.cell? ⟨w.heap.size + 1, 1, none⟩ = some (.slice a l.length cap) := KC_31.out.c 1 rfl
  have xC2 : u3.cell? ⟨w.heap.size + 1, 2, none⟩ = some (.int .i64 tag) := KC_31.out.c 2 rfl
  have zC : w.heap.size + 1 < u3.heap.size := KC_31.out.2.2
  have z2C : w.heap.size + 1 < u3.heap.size + 1 := by omega
  have xK0 : u3.cell? ⟨w.heap.size + 1 + 1 + 1, 0, none⟩ = some (.int .i64 r) := KK_33.out.c 0 rfl
  have xK1 : u3.cell? ⟨w.heap.size + 1 + 1 + 1, 1, none⟩ = some (.int .i64 v) := KK_33.out.c 1 rfl
  have xK2 : u3.cell? ⟨w.heap.size + 1 + 1 + 1, 2, none⟩ = some (.int .i64 x) := KK_33.out.c 2 rfl
  have xK3 : u3.cell? ⟨w.heap.size + 1 + 1 + 1, 3, none⟩ = some (.int .i64 t) := KK_33.out.c 3 rfl
  have zK : w.heap.size + 1 + 1 + 1 < u3.heap.size := KK_33.out.2.2
  have z2K : w.heap.size + 1 + 1 + 1 < u3.heap.size + 1 := by omega
  go_wp2_with fail
  refine (chk_any key id tag r v x t u _ _ m l _ (H.out.step HB34.out) (HA.out.step HB34.out).1).mono ?_
  rintro e u24 ⟨rfl, b24⟩
  obtain ⟨E, hE⟩ : ∃ E, ckR key m id tag l r v x t u = E := ⟨_, rfl⟩
  rw [hE]
  replace hE := Lib.hid hE
  clear xA0 zA z2A xC0 xC1 xC2 zC z2C xK0 xK1 xK2 xK3 zK z2K
  have KA_35 := Lib.hid (KA_30.out.step b24)
  clear KA_30
  have KC_36 := Lib.hid (KC_31.out.step b24)
  clear KC_31
  have KV_37 := Lib.hid (KV_32.out.step b24)
  clear KV_32
  have KK_38 := Lib.hid (KK_33.out.step b24)
  clear KK_33
  have HB39 := Lib.hid (keep2 b24 HB34.out)
  clear HB34 b24
  have n1 : E ≠ 1 := fun q => H5.out (hE.out.trans q)
  have n2 : (E == 1) = false := by simpa using n1
  have n3 : decide (E = 1) = false := by simpa using n1
  clear n1
  have N1 : Hid (E ≠ 1) := Lib.hid (fun q => H5.out (hE.out.trans q))
  have t1 : wrap64 (tg.tmod 2147483647) = tg % 2147483647 := by rw [Int.tmod_eq_emod_of_nonneg hg.1]; exact IntWalk.wrap64_in _ (by omega)
  have xA0 : u24.cell? ⟨w.heap.size, 0, none⟩ = some (.slice aa m.length ac) := KA_35.out.c 0 rfl
  have zA : w.heap.size < u24.heap.size := KA_35.out.2.2
  have z2A : w.heap.size < u24.heap.size + 1 := by omega
  go_wp2_with fail
  refine (add_any _ m (tg % 2147483647) _ (HA.out.step HB39.out)).mono ?_
  rintro e u25 ⟨⟨um, rfl, hum⟩, b25⟩
  rw [H6.out]
  obtain ⟨L, hL⟩ : ∃ L, mgL m [tg % 2147483647] = L := ⟨_, rfl⟩
  obtain ⟨ma, mc, rfl, htm⟩ := row_tg hum hL rfl
  have HM := Lib.hid htm
  clear hum htm
  replace hL := Lib.hid hL
  clear xA0 zA z2A
  have KA_40 := Lib.hid (KA_35.out.step b25)
  clear KA_35
  have KC_41 := Lib.hid (KC_36.out.step b25)
  clear KC_36
  have KV_42 := Lib.hid (KV_37.out.step b25)
  clear KV_37
  have KK_43 := Lib.hid (KK_38.out.step b25)
  clear KK_38
  have HB44 := Lib.hid (keep2 b25 HB39.out)
  clear HB39 b25
  replace HM := Lib.hid (HM.out.step (al u25 (.cells #[.slice ma L.length mc] 24)))
  have KA_45 := Lib.hid (KA_40.out.alloc (.cells #[.slice ma L.length mc] 24))
  clear KA_40
  have KC_46 := Lib.hid (KC_41.out.alloc (.cells #[.slice ma L.length mc] 24))
  clear KC_41
  have KV_47 := Lib.hid (KV_42.out.alloc (.cells #[.slice ma L.length mc] 24))
  clear KV_42
  have KK_48 := Lib.hid (KK_43.out.alloc (.cells #[.slice ma L.length mc] 24))
  clear KK_43
  have KM_49 := Lib.hid (Cs.new u25 (u25.heap.size) #[.slice ma L.length mc] 24 (by simp))
  have HB50 : Hid (Below w.heap.size w (u25.alloc (.cells #[.slice ma L.length mc] 24))) := HB44.out.alloc HB44.out.size _
  clear HB44
  obtain ⟨nn, hnn⟩ : ∃ nn, tg % 2147483647 = nn := ⟨_, rfl⟩
  rw [hnn] at H6 hL ⊢
  replace hnn := Lib.hid hnn
  clear t1
  obtain ⟨⟨a1, a2⟩, a3, a4⟩ := add_zero H6.out
  rw [hL.out] at a3
  have HA3 := Lib.hid a3
  clear a3
  have SL := Lib.hid a4
  clear a1 a2 a4
  have xC0 : (u25.alloc (.cells #[.slice ma L.length mc] 24)).cell? ⟨w.heap.size + 1, 0, none⟩ = some (.int .i64 id) := KC_46.out.c 0 rfl
  have xC1 : (u25.alloc (.cells #[.slice ma L.length mc] 24)).cell? ⟨w.heap.size + 1, 1, none⟩ = some (.slice a l.length cap) := KC_46.out.c 1 rfl
  have xC2 : (u25.alloc (.cells #[.slice ma L.length mc] 24)).cell? ⟨w.heap.size + 1, 2, none⟩ = some (.int .i64 tag) := KC_46.out.c 2 rfl
  have zC : w.heap.size + 1 < (u25.alloc (.cells #[.slice ma L.length mc] 24)).heap.size := KC_46.out.2.2
  have z2C : w.heap.size + 1 < (u25.alloc (.cells #[.slice ma L.length mc] 24)).heap.size + 1 := by omega
  go_wp2_with fail
  refine (chain2_any key id tag _ l _ (H.out.step HB50.out)).mono ?_
  rintro e u30 ⟨uc, rfl, hu, b30⟩
  obtain ⟨CH, hCH⟩ : ∃ CH, chB key id tag l = CH := ⟨_, rfl⟩
  obtain ⟨ca, cc, rfl, hci⟩ := ints_form hu hCH
  have HCI := Lib.hid hci
  clear hci hu
  replace hCH := Lib.hid hCH
  replace HM := Lib.hid (HM.out.step b30)
  clear xC0 xC1 xC2 zC z2C
  have KA_51 := Lib.hid (KA_45.out.step b30)
  clear KA_45
  have KC_52 := Lib.hid (KC_46.out.step b30)
  clear KC_46
  have KV_53 := Lib.hid (KV_47.out.step b30)
  clear KV_47
  have KK_54 := Lib.hid (KK_48.out.step b30)
  clear KK_48
  have KM_55 := Lib.hid (KM_49.out.step b30)
  clear KM_49
  have HB56 := Lib.hid (keep2 b30 HB50.out)
  clear HB50 b30
  go_wp2_with fail
  refine (in_any _ CH nn _ HCI.out).mono ?_
  rintro e w' ⟨rfl, rfl⟩
  obtain ⟨ic, hic⟩ : ∃ ic, inB CH nn = ic := ⟨_, rfl⟩
  rw [hic]
  replace hic := Lib.hid hic
  have xC0 : u30.cell? ⟨w.heap.size + 1, 0, none⟩ = some (.int .i64 id) := KC_52.out.c 0 rfl
  have xC1 : u30.cell? ⟨w.heap.size + 1, 1, none⟩ = some (.slice a l.length cap) := KC_52.out.c 1 rfl
  have xC2 : u30.cell? ⟨w.heap.size + 1, 2, none⟩ = some (.int .i64 tag) := KC_52.out.c 2 rfl
  have zC : w.heap.size + 1 < u30.heap.size := KC_52.out.2.2
  have z2C : w.heap.size + 1 < u30.heap.size + 1 := by omega
  have xK0 : u30.cell? ⟨w.heap.size + 1 + 1 + 1, 0, none⟩ = some (.int .i64 r) := KK_54.out.c 0 rfl
  have xK1 : u30.cell? ⟨w.heap.size + 1 + 1 + 1, 1, none⟩ = some (.int .i64 v) := KK_54.out.c 1 rfl
  have xK2 : u30.cell? ⟨w.heap.size + 1 + 1 + 1, 2, none⟩ = some (.int .i64 x) := KK_54.out.c 2 rfl
  have xK3 : u30.cell? ⟨w.heap.size + 1 + 1 + 1, 3, none⟩ = some (.int .i64 t) := KK_54.out.c 3 rfl
  have zK : w.heap.size + 1 + 1 + 1 < u30.heap.size := KK_54.out.2.2
  have z2K : w.heap.size + 1 + 1 + 1 < u30.heap.size + 1 := by omega
  have xM0 : u30.cell? ⟨u25.heap.size, 0, none⟩ = some (.slice ma L.length mc) := KM_55.out.c 0 rfl
  have zM : u25.heap.size < u30.heap.size := KM_55.out.2.2
  have z2M : u25.heap.size < u30.heap.size + 1 := by omega
  go_wp2_with fail
  refine (chk_any key id tag r v x t u _ _ L l _ (H.out.step HB56.out) HM.out.1).mono ?_
  rintro e u31 ⟨rfl, b31⟩
  obtain ⟨E2, hE2⟩ : ∃ E2, ckR key L id tag l r v x t u = E2 := ⟨_, rfl⟩
  rw [hE2]
  replace HM := Lib.hid (HM.out.step b31)
  replace HCI := Lib.hid (HCI.out.step b31)
  clear xC0 xC1 xC2 zC z2C xK0 xK1 xK2 xK3 zK z2K xM0 zM z2M
  have KA_57 := Lib.hid (KA_51.out.step b31)
  clear KA_51
  have KC_58 := Lib.hid (KC_52.out.step b31)
  clear KC_52
  have KV_59 := Lib.hid (KV_53.out.step b31)
  clear KV_53
  have KK_60 := Lib.hid (KK_54.out.step b31)
  clear KK_54
  have KM_61 := Lib.hid (KM_55.out.step b31)
  clear KM_55
  have HB62 := Lib.hid (keep2 b31 HB56.out)
  clear HB56 b31
  have HAC := add_cases (E2 := E2) (ic := ic) S1.out SL.out hE.out N1.out (by rw [← HA3.out]; exact hE2) (by rw [hCH.out]; exact hic.out)
  clear hE2
  rcases HAC with ⟨rfl, rfl⟩ | ⟨k1, rfl, rfl⟩ | ⟨k1, rfl, k2⟩
  · clear n2 n3
    have xC0 : u31.cell? ⟨w.heap.size + 1, 0, none⟩ = some (.int .i64 id) := KC_58.out.c 0 rfl
    have xC1 : u31.cell? ⟨w.heap.size + 1, 1, none⟩ = some (.slice a l.length cap) := KC_58.out.c 1 rfl
    have xC2 : u31.cell? ⟨w.heap.size + 1, 2, none⟩ = some (.int .i64 tag) := KC_58.out.c 2 rfl
    have zC : w.heap.size + 1 < u31.heap.size := KC_58.out.2.2
    have z2C : w.heap.size + 1 < u31.heap.size + 1 := by omega
    have xV0 : u31.cell? ⟨w.heap.size + 1 + 1, 0, none⟩ = some (.int .i64 ck) := KV_59.out.c 0 rfl
    have xV1 : u31.cell? ⟨w.heap.size + 1 + 1, 1, none⟩ = some (.int .i64 cz) := KV_59.out.c 1 rfl
    have zV : w.heap.size + 1 + 1 < u31.heap.size := KV_59.out.2.2
    have z2V : w.heap.size + 1 + 1 < u31.heap.size + 1 := by omega
    go_wp2_with fail
    refine (narrow_any id tag ck cz _ l _ (H.out.step HB62.out)).mono ?_
    rintro e u26 ⟨vr, rfl, b26, hp1, hp2⟩
    obtain rfl := hp2 H7.out
    clear hp1 hp2
    obtain ⟨er, her⟩ : ∃ er, nrE id tag l ck cz = er := ⟨_, rfl⟩
    rw [her]
    have e0 : er ≠ 0 := fun q => H7.out (her.trans q)
    have e1 : (er != 0) = true := by simpa using e0
    have e2 : (er == 0) = false := by simpa using e0
    have e3 : decide (er = 0) = false := by simpa using e0
    clear her e0
    replace HM := Lib.hid (HM.out.step b26)
    replace HCI := Lib.hid (HCI.out.step b26)
    clear xC0 xC1 xC2 zC z2C xV0 xV1 zV z2V
    have KA_63 := Lib.hid (KA_57.out.step b26)
    clear KA_57
    have KC_64 := Lib.hid (KC_58.out.step b26)
    clear KC_58
    have KV_65 := Lib.hid (KV_59.out.step b26)
    clear KV_59
    have KK_66 := Lib.hid (KK_60.out.step b26)
    clear KK_60
    have KM_67 := Lib.hid (KM_61.out.step b26)
    clear KM_61
    have HB68 := Lib.hid (keep2 b26 HB62.out)
    clear HB62 b26
    replace HM := Lib.hid (HM.out.step (al u26 (.cells #[.int .i64 0, .slice none 0 0, .int .i64 0] 27)))
    replace HCI := Lib.hid (HCI.out.step (al u26 (.cells #[.int .i64 0, .slice none 0 0, .int .i64 0] 27)))
    have KA_69 := Lib.hid (KA_63.out.alloc (.cells #[.int .i64 0, .slice none 0 0, .int .i64 0] 27))
    clear KA_63
    have KC_70 := Lib.hid (KC_64.out.alloc (.cells #[.int .i64 0, .slice none 0 0, .int .i64 0] 27))
    clear KC_64
    have KV_71 := Lib.hid (KV_65.out.alloc (.cells #[.int .i64 0, .slice none 0 0, .int .i64 0] 27))
    clear KV_65
    have KK_72 := Lib.hid (KK_66.out.alloc (.cells #[.int .i64 0, .slice none 0 0, .int .i64 0] 27))
    clear KK_66
    have KM_73 := Lib.hid (KM_67.out.alloc (.cells #[.int .i64 0, .slice none 0 0, .int .i64 0] 27))
    clear KM_67
    have KD_74 := Lib.hid (Cs.new u26 (u26.heap.size) #[.int .i64 0, .slice none 0 0, .int .i64 0] 27 (by simp))
    have HB75 : Hid (Below w.heap.size w (u26.alloc (.cells #[.int .i64 0, .slice none 0 0, .int .i64 0] 27))) := HB68.out.alloc HB68.out.size _
    clear HB68
    go_wp2
    go_ret
    exact ⟨rfl, HB75.out⟩
  · have NE := Lib.hid k1
    have p1 : (E != 21) = true := by simpa using k1
    have p2 : (E == 21) = false := by simpa using k1
    have p3 : decide (E = 21) = false := by simpa using k1
    clear k1
    have xC0 : u31.cell? ⟨w.heap.size + 1, 0, none⟩ = some (.int .i64 id) := KC_58.out.c 0 rfl
    have xC1 : u31.cell? ⟨w.heap.size + 1, 1, none⟩ = some (.slice a l.length cap) := KC_58.out.c 1 rfl
    have xC2 : u31.cell? ⟨w.heap.size + 1, 2, none⟩ = some (.int .i64 tag) := KC_58.out.c 2 rfl
    have zC : w.heap.size + 1 < u31.heap.size := KC_58.out.2.2
    have z2C : w.heap.size + 1 < u31.heap.size + 1 := by omega
    have xV0 : u31.cell? ⟨w.heap.size + 1 + 1, 0, none⟩ = some (.int .i64 ck) := KV_59.out.c 0 rfl
    have xV1 : u31.cell? ⟨w.heap.size + 1 + 1, 1, none⟩ = some (.int .i64 cz) := KV_59.out.c 1 rfl
    have zV : w.heap.size + 1 + 1 < u31.heap.size := KV_59.out.2.2
    have z2V : w.heap.size + 1 + 1 < u31.heap.size + 1 := by omega
    go_wp2_with fail
    refine (narrow_any id tag ck cz _ l _ (H.out.step HB62.out)).mono ?_
    rintro e u26 ⟨vr, rfl, b26, hp1, hp2⟩
    obtain rfl := hp2 H7.out
    clear hp1 hp2
    obtain ⟨er, her⟩ : ∃ er, nrE id tag l ck cz = er := ⟨_, rfl⟩
    rw [her]
    have e0 : er ≠ 0 := fun q => H7.out (her.trans q)
    have e1 : (er != 0) = true := by simpa using e0
    have e2 : (er == 0) = false := by simpa using e0
    have e3 : decide (er = 0) = false := by simpa using e0
    clear her e0
    replace HM := Lib.hid (HM.out.step b26)
    replace HCI := Lib.hid (HCI.out.step b26)
    clear xC0 xC1 xC2 zC z2C xV0 xV1 zV z2V
    have KA_63 := Lib.hid (KA_57.out.step b26)
    clear KA_57
    have KC_64 := Lib.hid (KC_58.out.step b26)
    clear KC_58
    have KV_65 := Lib.hid (KV_59.out.step b26)
    clear KV_59
    have KK_66 := Lib.hid (KK_60.out.step b26)
    clear KK_60
    have KM_67 := Lib.hid (KM_61.out.step b26)
    clear KM_61
    have HB68 := Lib.hid (keep2 b26 HB62.out)
    clear HB62 b26
    replace HM := Lib.hid (HM.out.step (al u26 (.cells #[.int .i64 0, .slice none 0 0, .int .i64 0] 27)))
    replace HCI := Lib.hid (HCI.out.step (al u26 (.cells #[.int .i64 0, .slice none 0 0, .int .i64 0] 27)))
    have KA_69 := Lib.hid (KA_63.out.alloc (.cells #[.int .i64 0, .slice none 0 0, .int .i64 0] 27))
    clear KA_63
    have KC_70 := Lib.hid (KC_64.out.alloc (.cells #[.int .i64 0, .slice none 0 0, .int .i64 0] 27))
    clear KC_64
    have KV_71 := Lib.hid (KV_65.out.alloc (.cells #[.int .i64 0, .slice none 0 0, .int .i64 0] 27))
    clear KV_65
    have KK_72 := Lib.hid (KK_66.out.alloc (.cells #[.int .i64 0, .slice none 0 0, .int .i64 0] 27))
    clear KK_66
    have KM_73 := Lib.hid (KM_67.out.alloc (.cells #[.int .i64 0, .slice none 0 0, .int .i64 0] 27))
    clear KM_67
    have KD_74 := Lib.hid (Cs.new u26 (u26.heap.size) #[.int .i64 0, .slice none 0 0, .int .i64 0] 27 (by simp))
    have HB75 : Hid (Below w.heap.size w (u26.alloc (.cells #[.int .i64 0, .slice none 0 0, .int .i64 0] 27))) := HB68.out.alloc HB68.out.size _
    clear HB68
    go_wp2
    go_ret
    exact ⟨rfl, HB75.out⟩
  · have NE := Lib.hid k1
    have p1 : (E != 21) = true := by simpa using k1
    have p2 : (E == 21) = false := by simpa using k1
    have p3 : decide (E = 21) = false := by simpa using k1
    clear k1
    have q2 : (E2 == 21) = false := by simpa using k2
    have q3 : decide (E2 = 21) = false := by simpa using k2
    clear k2
    have xC0 : u31.cell? ⟨w.heap.size + 1, 0, none⟩ = some (.int .i64 id) := KC_58.out.c 0 rfl
    have xC1 : u31.cell? ⟨w.heap.size + 1, 1, none⟩ = some (.slice a l.length cap) := KC_58.out.c 1 rfl
    have xC2 : u31.cell? ⟨w.heap.size + 1, 2, none⟩ = some (.int .i64 tag) := KC_58.out.c 2 rfl
    have zC : w.heap.size + 1 < u31.heap.size := KC_58.out.2.2
    have z2C : w.heap.size + 1 < u31.heap.size + 1 := by omega
    have xV0 : u31.cell? ⟨w.heap.size + 1 + 1, 0, none⟩ = some (.int .i64 ck) := KV_59.out.c 0 rfl
    have xV1 : u31.cell? ⟨w.heap.size + 1 + 1, 1, none⟩ = some (.int .i64 cz) := KV_59.out.c 1 rfl
    have zV : w.heap.size + 1 + 1 < u31.heap.size := KV_59.out.2.2
    have z2V : w.heap.size + 1 + 1 < u31.heap.size + 1 := by omega
    go_wp2_with fail
    refine (narrow_any id tag ck cz _ l _ (H.out.step HB62.out)).mono ?_
    rintro e u26 ⟨vr, rfl, b26, hp1, hp2⟩
    obtain rfl := hp2 H7.out
    clear hp1 hp2
    obtain ⟨er, her⟩ : ∃ er, nrE id tag l ck cz = er := ⟨_, rfl⟩
    rw [her]
    have e0 : er ≠ 0 := fun q => H7.out (her.trans q)
    have e1 : (er != 0) = true := by simpa using e0
    have e2 : (er == 0) = false := by simpa using e0
    have e3 : decide (er = 0) = false := by simpa using e0
    clear her e0
    replace HM := Lib.hid (HM.out.step b26)
    replace HCI := Lib.hid (HCI.out.step b26)
    clear xC0 xC1 xC2 zC z2C xV0 xV1 zV z2V
    have KA_63 := Lib.hid (KA_57.out.step b26)
    clear KA_57
    have KC_64 := Lib.hid (KC_58.out.step b26)
    clear KC_58
    have KV_65 := Lib.hid (KV_59.out.step b26)
    clear KV_59
    have KK_66 := Lib.hid (KK_60.out.step b26)
    clear KK_60
    have KM_67 := Lib.hid (KM_61.out.step b26)
    clear KM_61
    have HB68 := Lib.hid (keep2 b26 HB62.out)
    clear HB62 b26
    replace HM := Lib.hid (HM.out.step (al u26 (.cells #[.int .i64 0, .slice none 0 0, .int .i64 0] 27)))
    replace HCI := Lib.hid (HCI.out.step (al u26 (.cells #[.int .i64 0, .slice none 0 0, .int .i64 0] 27)))
    have KA_69 := Lib.hid (KA_63.out.alloc (.cells #[.int .i64 0, .slice none 0 0, .int .i64 0] 27))
    clear KA_63
    have KC_70 := Lib.hid (KC_64.out.alloc (.cells #[.int .i64 0, .slice none 0 0, .int .i64 0] 27))
    clear KC_64
    have KV_71 := Lib.hid (KV_65.out.alloc (.cells #[.int .i64 0, .slice none 0 0, .int .i64 0] 27))
    clear KV_65
    have KK_72 := Lib.hid (KK_66.out.alloc (.cells #[.int .i64 0, .slice none 0 0, .int .i64 0] 27))
    clear KK_66
    have KM_73 := Lib.hid (KM_67.out.alloc (.cells #[.int .i64 0, .slice none 0 0, .int .i64 0] 27))
    clear KM_67
    have KD_74 := Lib.hid (Cs.new u26 (u26.heap.size) #[.int .i64 0, .slice none 0 0, .int .i64 0] 27 (by simp))
    have HB75 : Hid (Below w.heap.size w (u26.alloc (.cells #[.int .i64 0, .slice none 0 0, .int .i64 0] 27))) := HB68.out.alloc HB68.out.size _
    clear HB68
    go_wp2
    go_ret
    exact ⟨rfl, HB75.out⟩
set_option maxRecDepth 100000 in
set_option maxHeartbeats 4000000 in
theorem nar_zero_ok (va : Value) (m : List Int) (key id tag : Int) (sl : Value) (l : List Cv) (ck cz r v x t u tg : Int) (w : World) (ha : TgAt w va m) (h : CvsAt w sl l) (hg : 0 ≤ tg ∧ tg ≤ 4294967295) (hf : fwB m.length = true) (h1 : stB m = true) (h3 : l.length ≤ 20) (h4 : gnB key id tag l = true) (h5 : ckR key m id tag l r v x t u ≠ 1) (h6 : mgE m [tg % 2147483647] = 0) (h7 : nrE id tag l ck cz = 0) : Calls Try.prog 7 #[.agg #[va], .int .i64 key, .agg #[.int .i64 id, sl, .int .i64 tag], .agg #[.int .i64 ck, .int .i64 cz], .agg #[.int .i64 r, .int .i64 v, .int .i64 x, .int .i64 t], .int .i64 u, .int .u32 tg] w fun e w' => e = .returned (.bool true) ∧ Below w.heap.size w w' := by
  have H := Lib.hid h
  have HA := Lib.hid ha
  have FW := Lib.hid hf
  clear hf
  obtain ⟨a, cap, rfl, -, hm, -⟩ := h
  obtain ⟨⟨aa, ac, rfl, ham, -⟩, -⟩ := ha
  unfold maxLen at hm ham
  have S1 := Lib.hid h1
  clear h1
  have g3 : decide (((l).length : Int) > 20) = false := by simp; omega
  have g3' : decide ((20 : Int) < ((l).length : Int)) = false := by simp; omega
  have GN := Lib.hid h4
  clear h4
  have H5 := Lib.hid h5
  clear h5
  have H6 := Lib.hid h6
  clear h6
  have H7 := Lib.hid h7
  clear h7
  have HB0 := Lib.hid (Below.refl w.heap.size w)
  go_enter Try.func7, Try.ntmps7
  have KA_1 := Lib.hid (Cs.new w (w.heap.size) #[.slice aa m.length ac] 24 (by simp))
  have HB2 : Hid (Below w.heap.size w (w.alloc (.cells #[.slice aa m.length ac] 24))) := HB0.out.alloc HB0.out.size _
  clear HB0
  have KA_3 := Lib.hid (KA_1.out.alloc (.cells #[.int .i64 id, .slice a l.length cap, .int .i64 tag] 27))
  clear KA_1
  have KC_4 := Lib.hid (Cs.new (w.alloc (.cells #[.slice aa m.length ac] 24)) (w.heap.size + 1) #[.int .i64 id, .slice a l.length cap, .int .i64 tag] 27 (by simp))
  have HB5 : Hid (Below w.heap.size w ((w.alloc (.cells #[.slice aa m.length ac] 24)).alloc (.cells #[.int .i64 id, .slice a l.length cap, .int .i64 tag] 27))) := HB2.out.alloc HB2.out.size _
  clear HB2
  have KA_6 := Lib.hid (KA_3.out.alloc (.cells #[.int .i64 ck, .int .i64 cz] 48))
  clear KA_3
  have KC_7 := Lib.hid (KC_4.out.alloc (.cells #[.int .i64 ck, .int .i64 cz] 48))
  clear KC_4
  have KV_8 := Lib.hid (Cs.new ((w.alloc (.cells #[.slice aa m.length ac] 24)).alloc (.cells #[.int .i64 id, .slice a l.length cap, .int .i64 tag] 27)) (w.heap.size + 1 + 1) #[.int .i64 ck, .int .i64 cz] 48 (by simp))
  have HB9 : Hid (Below w.heap.size w (((w.alloc (.cells #[.slice aa m.length ac] 24)).alloc (.cells #[.int .i64 id, .slice a l.length cap, .int .i64 tag] 27)).alloc (.cells #[.int .i64 ck, .int .i64 cz] 48))) := HB5.out.alloc HB5.out.size _
  clear HB5
  have KA_10 := Lib.hid (KA_6.out.alloc (.cells #[.int .i64 r, .int .i64 v, .int .i64 x, .int .i64 t] 29))
  clear KA_6
  have KC_11 := Lib.hid (KC_7.out.alloc (.cells #[.int .i64 r, .int .i64 v, .int .i64 x, .int .i64 t] 29))
  clear KC_7
  have KV_12 := Lib.hid (KV_8.out.alloc (.cells #[.int .i64 r, .int .i64 v, .int .i64 x, .int .i64 t] 29))
  clear KV_8
  have KK_13 := Lib.hid (Cs.new (((w.alloc (.cells #[.slice aa m.length ac] 24)).alloc (.cells #[.int .i64 id, .slice a l.length cap, .int .i64 tag] 27)).alloc (.cells #[.int .i64 ck, .int .i64 cz] 48)) (w.heap.size + 1 + 1 + 1) #[.int .i64 r, .int .i64 v, .int .i64 x, .int .i64 t] 29 (by simp))
  have HB14 : Hid (Below w.heap.size w ((((w.alloc (.cells #[.slice aa m.length ac] 24)).alloc (.cells #[.int .i64 id, .slice a l.length cap, .int .i64 tag] 27)).alloc (.cells #[.int .i64 ck, .int .i64 cz] 48)).alloc (.cells #[.int .i64 r, .int .i64 v, .int .i64 x, .int .i64 t] 29))) := HB9.out.alloc HB9.out.size _
  clear HB9
  go_wp2_with fail
  refine (head_any _).mono ?_
  rintro e u1 ⟨rfl, b1⟩
  have KA_15 := Lib.hid (KA_10.out.step b1)
  clear KA_10
  have KC_16 := Lib.hid (KC_11.out.step b1)
  clear KC_11
  have KV_17 := Lib.hid (KV_12.out.step b1)
  clear KV_12
  have KK_18 := Lib.hid (KK_13.out.step b1)
  clear KK_13
  have HB19 := Lib.hid (keep2 b1 HB14.out)
  clear HB14 b1
  have xA0 : u1.cell? ⟨w.heap.size, 0, none⟩ = some (.slice aa m.length ac) := KA_15.out.c 0 rfl
  have zA : w.heap.size < u1.heap.size := KA_15.out.2.2
  have z2A : w.heap.size < u1.heap.size + 1 := by omega
  go_wp2_with fail
  have KA_20 := Lib.hid (KA_15.out.alloc (.cells #[.slice aa m.length ac] 24))
  clear KA_15
  have KC_21 := Lib.hid (KC_16.out.alloc (.cells #[.slice aa m.length ac] 24))
  clear KC_16
  have KV_22 := Lib.hid (KV_17.out.alloc (.cells #[.slice aa m.length ac] 24))
  clear KV_17
  have KK_23 := Lib.hid (KK_18.out.alloc (.cells #[.slice aa m.length ac] 24))
  clear KK_18
  have HB24 : Hid (Below w.heap.size w (u1.alloc (.cells #[.slice aa m.length ac] 24))) := HB19.out.alloc HB19.out.size _
  clear HB19
  refine (few_any _ [(aa, m.length, ac)] _ (sls_one u1 aa m.length ac u1.heap.size rfl) (by simp) (by intro q hq; simp at hq; subst hq; unfold maxLen; omega)).mono ?_
  rintro e w' ⟨rfl, rfl⟩
  rw [show ([(aa, m.length, ac)] : List (Option Addr × Nat × Nat)).all (fun q => fwB q.2.1) = true from by simp only [List.all_cons, List.all_nil, FW.out]; rfl]
  clear xA0 zA z2A
  have xA0 : (u1.alloc (.cells #[.slice aa m.length ac] 24)).cell? ⟨w.heap.size, 0, none⟩ = some (.slice aa m.length ac) := KA_20.out.c 0 rfl
  have zA : w.heap.size < (u1.alloc (.cells #[.slice aa m.length ac] 24)).heap.size := KA_20.out.2.2
  have z2A : w.heap.size < (u1.alloc (.cells #[.slice aa m.length ac] 24)).heap.size + 1 := by omega
  go_wp2_with fail
  refine (rvalid_any _ m _ (HA.out.step HB24.out).1).mono ?_
  rintro e u2 ⟨rfl, b2⟩
  clear xA0 zA z2A
  have KA_25 := Lib.hid (KA_20.out.step b2)
  clear KA_20
  have KC_26 := Lib.hid (KC_21.out.step b2)
  clear KC_21
  have KV_27 := Lib.hid (KV_22.out.step b2)
  clear KV_22
  have KK_28 := Lib.hid (KK_23.out.step b2)
  clear KK_23
  have HB29 := Lib.hid (keep2 b2 HB24.out)
  clear HB24 b2
  rw [S1.out]
  have xC0 : u2.cell? ⟨w.heap.size + 1, 0, none⟩ = some (.int .i64 id) := KC_26.out.c 0 rfl
  have xC1 : u2.cell? ⟨w.heap.size + 1, 1, none⟩ = some (.slice a l.length cap) := KC_26.out.c 1 rfl
  have xC2 : u2.cell? ⟨w.heap.size + 1, 2, none⟩ = some (.int .i64 tag) := KC_26.out.c 2 rfl
  have zC : w.heap.size + 1 < u2.heap.size := KC_26.out.2.2
  have z2C : w.heap.size + 1 < u2.heap.size + 1 := by omega
  go_wp2_with fail
  refine (genuine_any key id tag _ l _ (H.out.step HB29.out)).mono ?_
  rintro e u3 ⟨rfl, b3⟩
  clear xC0 xC1 xC2 zC z2C
  have KA_30 := Lib.hid (KA_25.out.step b3)
  clear KA_25
  have KC_31 := Lib.hid (KC_26.out.step b3)
  clear KC_26
  have KV_32 := Lib.hid (KV_27.out.step b3)
  clear KV_27
  have KK_33 := Lib.hid (KK_28.out.step b3)
  clear KK_28
  have HB34 := Lib.hid (keep2 b3 HB29.out)
  clear HB29 b3
  rw [GN.out]
  have xA0 : u3.cell? ⟨w.heap.size, 0, none⟩ = some (.slice aa m.length ac) := KA_30.out.c 0 rfl
  have zA : w.heap.size < u3.heap.size := KA_30.out.2.2
  have z2A : w.heap.size < u3.heap.size + 1 := by omega
  have xC0 : u3.cell? ⟨w.heap.size + 1, 0, none⟩ = some (.int .i64 id) := KC_31.out.c 0 rfl
  have xC1 : u3.cell? ⟨w.heap.size + 1, 1, none⟩ = some (.slice a l.length cap) := KC_31.out.c 1 rfl
  have xC2 : u3.cell? ⟨w.heap.size + 1, 2, none⟩ = some (.int .i64 tag) := KC_31.out.c 2 rfl
  have zC : w.heap.size + 1 < u3.heap.size := KC_31.out.2.2
  have z2C : w.heap.size + 1 < u3.heap.size + 1 := by omega
  have xK0 : u3.cell? ⟨w.heap.size + 1 + 1 + 1, 0, none⟩ = some (.int .i64 r) := KK_33.out.c 0 rfl
  have xK1 : u3.cell? ⟨w.heap.size + 1 + 1 + 1, 1, none⟩ = some (.int .i64 v) := KK_33.out.c 1 rfl
  have xK2 : u3.cell? ⟨w.heap.size + 1 + 1 + 1, 2, none⟩ = some (.int .i64 x) := KK_33.out.c 2 rfl
  have xK3 : u3.cell? ⟨w.heap.size + 1 + 1 + 1, 3, none⟩ = some (.int .i64 t) := KK_33.out.c 3 rfl
  have zK : w.heap.size + 1 + 1 + 1 < u3.heap.size := KK_33.out.2.2
  have z2K : w.heap.size + 1 + 1 + 1 < u3.heap.size + 1 := by omega
  go_wp2_with fail
  refine (chk_any key id tag r v x t u _ _ m l _ (H.out.step HB34.out) (HA.out.step HB34.out).1).mono ?_
  rintro e u24 ⟨rfl, b24⟩
  obtain ⟨E, hE⟩ : ∃ E, ckR key m id tag l r v x t u = E := ⟨_, rfl⟩
  rw [hE]
  replace hE := Lib.hid hE
  clear xA0 zA z2A xC0 xC1 xC2 zC z2C xK0 xK1 xK2 xK3 zK z2K
  have KA_35 := Lib.hid (KA_30.out.step b24)
  clear KA_30
  have KC_36 := Lib.hid (KC_31.out.step b24)
  clear KC_31
  have KV_37 := Lib.hid (KV_32.out.step b24)
  clear KV_32
  have KK_38 := Lib.hid (KK_33.out.step b24)
  clear KK_33
  have HB39 := Lib.hid (keep2 b24 HB34.out)
  clear HB34 b24
  have n1 : E ≠ 1 := fun q => H5.out (hE.out.trans q)
  have n2 : (E == 1) = false := by simpa using n1
  have n3 : decide (E = 1) = false := by simpa using n1
  clear n1
  have N1 : Hid (E ≠ 1) := Lib.hid (fun q => H5.out (hE.out.trans q))
  have t1 : wrap64 (tg.tmod 2147483647) = tg % 2147483647 := by rw [Int.tmod_eq_emod_of_nonneg hg.1]; exact IntWalk.wrap64_in _ (by omega)
  have xA0 : u24.cell? ⟨w.heap.size, 0, none⟩ = some (.slice aa m.length ac) := KA_35.out.c 0 rfl
  have zA : w.heap.size < u24.heap.size := KA_35.out.2.2
  have z2A : w.heap.size < u24.heap.size + 1 := by omega
  go_wp2_with fail
  refine (add_any _ m (tg % 2147483647) _ (HA.out.step HB39.out)).mono ?_
  rintro e u25 ⟨⟨um, rfl, hum⟩, b25⟩
  rw [H6.out]
  obtain ⟨L, hL⟩ : ∃ L, mgL m [tg % 2147483647] = L := ⟨_, rfl⟩
  obtain ⟨ma, mc, rfl, htm⟩ := row_tg hum hL rfl
  have HM := Lib.hid htm
  clear hum htm
  replace hL := Lib.hid hL
  clear xA0 zA z2A
  have KA_40 := Lib.hid (KA_35.out.step b25)
  clear KA_35
  have KC_41 := Lib.hid (KC_36.out.step b25)
  clear KC_36
  have KV_42 := Lib.hid (KV_37.out.step b25)
  clear KV_37
  have KK_43 := Lib.hid (KK_38.out.step b25)
  clear KK_38
  have HB44 := Lib.hid (keep2 b25 HB39.out)
  clear HB39 b25
  replace HM := Lib.hid (HM.out.step (al u25 (.cells #[.slice ma L.length mc] 24)))
  have KA_45 := Lib.hid (KA_40.out.alloc (.cells #[.slice ma L.length mc] 24))
  clear KA_40
  have KC_46 := Lib.hid (KC_41.out.alloc (.cells #[.slice ma L.length mc] 24))
  clear KC_41
  have KV_47 := Lib.hid (KV_42.out.alloc (.cells #[.slice ma L.length mc] 24))
  clear KV_42
  have KK_48 := Lib.hid (KK_43.out.alloc (.cells #[.slice ma L.length mc] 24))
  clear KK_43
  have KM_49 := Lib.hid (Cs.new u25 (u25.heap.size) #[.slice ma L.length mc] 24 (by simp))
  have HB50 : Hid (Below w.heap.size w (u25.alloc (.cells #[.slice ma L.length mc] 24))) := HB44.out.alloc HB44.out.size _
  clear HB44
  obtain ⟨nn, hnn⟩ : ∃ nn, tg % 2147483647 = nn := ⟨_, rfl⟩
  rw [hnn] at H6 hL ⊢
  replace hnn := Lib.hid hnn
  clear t1
  obtain ⟨⟨a1, a2⟩, a3, a4⟩ := add_zero H6.out
  rw [hL.out] at a3
  have HA3 := Lib.hid a3
  clear a3
  have SL := Lib.hid a4
  clear a1 a2 a4
  have xC0 : (u25.alloc (.cells #[.slice ma L.length mc] 24)).cell? ⟨w.heap.size + 1, 0, none⟩ = some (.int .i64 id) := KC_46.out.c 0 rfl
  have xC1 : (u25.alloc (.cells #[.slice ma L.length mc] 24)).cell? ⟨w.heap.size + 1, 1, none⟩ = some (.slice a l.length cap) := KC_46.out.c 1 rfl
  have xC2 : (u25.alloc (.cells #[.slice ma L.length mc] 24)).cell? ⟨w.heap.size + 1, 2, none⟩ = some (.int .i64 tag) := KC_46.out.c 2 rfl
  have zC : w.heap.size + 1 < (u25.alloc (.cells #[.slice ma L.length mc] 24)).heap.size := KC_46.out.2.2
  have z2C : w.heap.size + 1 < (u25.alloc (.cells #[.slice ma L.length mc] 24)).heap.size + 1 := by omega
  go_wp2_with fail
  refine (chain2_any key id tag _ l _ (H.out.step HB50.out)).mono ?_
  rintro e u30 ⟨uc, rfl, hu, b30⟩
  obtain ⟨CH, hCH⟩ : ∃ CH, chB key id tag l = CH := ⟨_, rfl⟩
  obtain ⟨ca, cc, rfl, hci⟩ := ints_form hu hCH
  have HCI := Lib.hid hci
  clear hci hu
  replace hCH := Lib.hid hCH
  replace HM := Lib.hid (HM.out.step b30)
  clear xC0 xC1 xC2 zC z2C
  have KA_51 := Lib.hid (KA_45.out.step b30)
  clear KA_45
  have KC_52 := Lib.hid (KC_46.out.step b30)
  clear KC_46
  have KV_53 := Lib.hid (KV_47.out.step b30)
  clear KV_47
  have KK_54 := Lib.hid (KK_48.out.step b30)
  clear KK_48
  have KM_55 := Lib.hid (KM_49.out.step b30)
  clear KM_49
  have HB56 := Lib.hid (keep2 b30 HB50.out)
  clear HB50 b30
  go_wp2_with fail
  refine (in_any _ CH nn _ HCI.out).mono ?_
  rintro e w' ⟨rfl, rfl⟩
  obtain ⟨ic, hic⟩ : ∃ ic, inB CH nn = ic := ⟨_, rfl⟩
  rw [hic]
  replace hic := Lib.hid hic
  have xC0 : u30.cell? ⟨w.heap.size + 1, 0, none⟩ = some (.int .i64 id) := KC_52.out.c 0 rfl
  have xC1 : u30.cell? ⟨w.heap.size + 1, 1, none⟩ = some (.slice a l.length cap) := KC_52.out.c 1 rfl
  have xC2 : u30.cell? ⟨w.heap.size + 1, 2, none⟩ = some (.int .i64 tag) := KC_52.out.c 2 rfl
  have zC : w.heap.size + 1 < u30.heap.size := KC_52.out.2.2
  have z2C : w.heap.size + 1 < u30.heap.size + 1 := by omega
  have xK0 : u30.cell? ⟨w.heap.size + 1 + 1 + 1, 0, none⟩ = some (.int .i64 r) := KK_54.out.c 0 rfl
  have xK1 : u30.cell? ⟨w.heap.size + 1 + 1 + 1, 1, none⟩ = some (.int .i64 v) := KK_54.out.c 1 rfl
  have xK2 : u30.cell? ⟨w.heap.size + 1 + 1 + 1, 2, none⟩ = some (.int .i64 x) := KK_54.out.c 2 rfl
  have xK3 : u30.cell? ⟨w.heap.size + 1 + 1 + 1, 3, none⟩ = some (.int .i64 t) := KK_54.out.c 3 rfl
  have zK : w.heap.size + 1 + 1 + 1 < u30.heap.size := KK_54.out.2.2
  have z2K : w.heap.size + 1 + 1 + 1 < u30.heap.size + 1 := by omega
  have xM0 : u30.cell? ⟨u25.heap.size, 0, none⟩ = some (.slice ma L.length mc) := KM_55.out.c 0 rfl
  have zM : u25.heap.size < u30.heap.size := KM_55.out.2.2
  have z2M : u25.heap.size < u30.heap.size + 1 := by omega
  go_wp2_with fail
  refine (chk_any key id tag r v x t u _ _ L l _ (H.out.step HB56.out) HM.out.1).mono ?_
  rintro e u31 ⟨rfl, b31⟩
  obtain ⟨E2, hE2⟩ : ∃ E2, ckR key L id tag l r v x t u = E2 := ⟨_, rfl⟩
  rw [hE2]
  replace HM := Lib.hid (HM.out.step b31)
  replace HCI := Lib.hid (HCI.out.step b31)
  clear xC0 xC1 xC2 zC z2C xK0 xK1 xK2 xK3 zK z2K xM0 zM z2M
  have KA_57 := Lib.hid (KA_51.out.step b31)
  clear KA_51
  have KC_58 := Lib.hid (KC_52.out.step b31)
  clear KC_52
  have KV_59 := Lib.hid (KV_53.out.step b31)
  clear KV_53
  have KK_60 := Lib.hid (KK_54.out.step b31)
  clear KK_54
  have KM_61 := Lib.hid (KM_55.out.step b31)
  clear KM_55
  have HB62 := Lib.hid (keep2 b31 HB56.out)
  clear HB56 b31
  have HAC := add_cases (E2 := E2) (ic := ic) S1.out SL.out hE.out N1.out (by rw [← HA3.out]; exact hE2) (by rw [hCH.out]; exact hic.out)
  clear hE2
  rcases HAC with ⟨rfl, rfl⟩ | ⟨k1, rfl, rfl⟩ | ⟨k1, rfl, k2⟩
  · clear n2 n3
    have xC0 : u31.cell? ⟨w.heap.size + 1, 0, none⟩ = some (.int .i64 id) := KC_58.out.c 0 rfl
    have xC1 : u31.cell? ⟨w.heap.size + 1, 1, none⟩ = some (.slice a l.length cap) := KC_58.out.c 1 rfl
    have xC2 : u31.cell? ⟨w.heap.size + 1, 2, none⟩ = some (.int .i64 tag) := KC_58.out.c 2 rfl
    have zC : w.heap.size + 1 < u31.heap.size := KC_58.out.2.2
    have z2C : w.heap.size + 1 < u31.heap.size + 1 := by omega
    have xV0 : u31.cell? ⟨w.heap.size + 1 + 1, 0, none⟩ = some (.int .i64 ck) := KV_59.out.c 0 rfl
    have xV1 : u31.cell? ⟨w.heap.size + 1 + 1, 1, none⟩ = some (.int .i64 cz) := KV_59.out.c 1 rfl
    have zV : w.heap.size + 1 + 1 < u31.heap.size := KV_59.out.2.2
    have z2V : w.heap.size + 1 + 1 < u31.heap.size + 1 := by omega
    go_wp2_with fail
    refine (narrow_any id tag ck cz _ l _ (H.out.step HB62.out)).mono ?_
    rintro e u26 ⟨vr, rfl, b26, hp1, hp2⟩
    obtain ⟨su, rfl, hs⟩ := hp1 H7.out
    clear hp1 hp2
    rw [H7.out]
    have HS := Lib.hid hs
    obtain ⟨sa, sc, rfl, -⟩ := hs
    have hln : (l ++ [(⟨ck, cz⟩ : Cv)]).length = l.length + 1 := by simp
    rw [hln] at HS ⊢
    clear hln
    obtain ⟨T2, hT2⟩ : ∃ T2, tgN tag ⟨ck, cz⟩ = T2 := ⟨_, rfl⟩
    rw [hT2]
    replace hT2 := Lib.hid hT2
    replace HM := Lib.hid (HM.out.step b26)
    replace HCI := Lib.hid (HCI.out.step b26)
    clear xC0 xC1 xC2 zC z2C xV0 xV1 zV z2V
    have KA_63 := Lib.hid (KA_57.out.step b26)
    clear KA_57
    have KC_64 := Lib.hid (KC_58.out.step b26)
    clear KC_58
    have KV_65 := Lib.hid (KV_59.out.step b26)
    clear KV_59
    have KK_66 := Lib.hid (KK_60.out.step b26)
    clear KK_60
    have KM_67 := Lib.hid (KM_61.out.step b26)
    clear KM_61
    have HB68 := Lib.hid (keep2 b26 HB62.out)
    clear HB62 b26
    replace HM := Lib.hid (HM.out.step (al u26 (.cells #[.int .i64 id, .slice sa (l.length + 1) sc, .int .i64 T2] 27)))
    replace HCI := Lib.hid (HCI.out.step (al u26 (.cells #[.int .i64 id, .slice sa (l.length + 1) sc, .int .i64 T2] 27)))
    replace HS := Lib.hid (HS.out.step (al u26 (.cells #[.int .i64 id, .slice sa (l.length + 1) sc, .int .i64 T2] 27)))
    have KA_69 := Lib.hid (KA_63.out.alloc (.cells #[.int .i64 id, .slice sa (l.length + 1) sc, .int .i64 T2] 27))
    clear KA_63
    have KC_70 := Lib.hid (KC_64.out.alloc (.cells #[.int .i64 id, .slice sa (l.length + 1) sc, .int .i64 T2] 27))
    clear KC_64
    have KV_71 := Lib.hid (KV_65.out.alloc (.cells #[.int .i64 id, .slice sa (l.length + 1) sc, .int .i64 T2] 27))
    clear KV_65
    have KK_72 := Lib.hid (KK_66.out.alloc (.cells #[.int .i64 id, .slice sa (l.length + 1) sc, .int .i64 T2] 27))
    clear KK_66
    have KM_73 := Lib.hid (KM_67.out.alloc (.cells #[.int .i64 id, .slice sa (l.length + 1) sc, .int .i64 T2] 27))
    clear KM_67
    have KD_74 := Lib.hid (Cs.new u26 (u26.heap.size) #[.int .i64 id, .slice sa (l.length + 1) sc, .int .i64 T2] 27 (by simp))
    have HB75 : Hid (Below w.heap.size w (u26.alloc (.cells #[.int .i64 id, .slice sa (l.length + 1) sc, .int .i64 T2] 27))) := HB68.out.alloc HB68.out.size _
    clear HB68
    have xA0 : (u26.alloc (.cells #[.int .i64 id, .slice sa (l.length + 1) sc, .int .i64 T2] 27)).cell? ⟨w.heap.size, 0, none⟩ = some (.slice aa m.length ac) := KA_69.out.c 0 rfl
    have zA : w.heap.size < (u26.alloc (.cells #[.int .i64 id, .slice sa (l.length + 1) sc, .int .i64 T2] 27)).heap.size := KA_69.out.2.2
    have z2A : w.heap.size < (u26.alloc (.cells #[.int .i64 id, .slice sa (l.length + 1) sc, .int .i64 T2] 27)).heap.size + 1 := by omega
    have xK0 : (u26.alloc (.cells #[.int .i64 id, .slice sa (l.length + 1) sc, .int .i64 T2] 27)).cell? ⟨w.heap.size + 1 + 1 + 1, 0, none⟩ = some (.int .i64 r) := KK_72.out.c 0 rfl
    have xK1 : (u26.alloc (.cells #[.int .i64 id, .slice sa (l.length + 1) sc, .int .i64 T2] 27)).cell? ⟨w.heap.size + 1 + 1 + 1, 1, none⟩ = some (.int .i64 v) := KK_72.out.c 1 rfl
    have xK2 : (u26.alloc (.cells #[.int .i64 id, .slice sa (l.length + 1) sc, .int .i64 T2] 27)).cell? ⟨w.heap.size + 1 + 1 + 1, 2, none⟩ = some (.int .i64 x) := KK_72.out.c 2 rfl
    have xK3 : (u26.alloc (.cells #[.int .i64 id, .slice sa (l.length + 1) sc, .int .i64 T2] 27)).cell? ⟨w.heap.size + 1 + 1 + 1, 3, none⟩ = some (.int .i64 t) := KK_72.out.c 3 rfl
    have zK : w.heap.size + 1 + 1 + 1 < (u26.alloc (.cells #[.int .i64 id, .slice sa (l.length + 1) sc, .int .i64 T2] 27)).heap.size := KK_72.out.2.2
    have z2K : w.heap.size + 1 + 1 + 1 < (u26.alloc (.cells #[.int .i64 id, .slice sa (l.length + 1) sc, .int .i64 T2] 27)).heap.size + 1 := by omega
    have xD0 : (u26.alloc (.cells #[.int .i64 id, .slice sa (l.length + 1) sc, .int .i64 T2] 27)).cell? ⟨u26.heap.size, 0, none⟩ = some (.int .i64 id) := KD_74.out.c 0 rfl
    have xD1 : (u26.alloc (.cells #[.int .i64 id, .slice sa (l.length + 1) sc, .int .i64 T2] 27)).cell? ⟨u26.heap.size, 1, none⟩ = some (.slice sa (l.length + 1) sc) := KD_74.out.c 1 rfl
    have xD2 : (u26.alloc (.cells #[.int .i64 id, .slice sa (l.length + 1) sc, .int .i64 T2] 27)).cell? ⟨u26.heap.size, 2, none⟩ = some (.int .i64 T2) := KD_74.out.c 2 rfl
    have zD : u26.heap.size < (u26.alloc (.cells #[.int .i64 id, .slice sa (l.length + 1) sc, .int .i64 T2] 27)).heap.size := KD_74.out.2.2
    have z2D : u26.heap.size < (u26.alloc (.cells #[.int .i64 id, .slice sa (l.length + 1) sc, .int .i64 T2] 27)).heap.size + 1 := by omega
    go_wp2_with fail
    refine (chk_any key id T2 r v x t u _ _ m (l ++ [⟨ck, cz⟩]) _ HS.out (HA.out.step HB75.out).1).mono ?_
    rintro e u27 ⟨rfl, b27⟩
    obtain ⟨Hh, hH⟩ : ∃ Hh, ckR key m id T2 (l ++ [⟨ck, cz⟩]) r v x t u = Hh := ⟨_, rfl⟩
    rw [hH]
    replace HM := Lib.hid (HM.out.step b27)
    replace HCI := Lib.hid (HCI.out.step b27)
    replace HS := Lib.hid (HS.out.step b27)
    clear xA0 zA z2A xK0 xK1 xK2 xK3 zK z2K xD0 xD1 xD2 zD z2D
    have KA_76 := Lib.hid (KA_69.out.step b27)
    clear KA_69
    have KC_77 := Lib.hid (KC_70.out.step b27)
    clear KC_70
    have KV_78 := Lib.hid (KV_71.out.step b27)
    clear KV_71
    have KK_79 := Lib.hid (KK_72.out.step b27)
    clear KK_72
    have KM_80 := Lib.hid (KM_73.out.step b27)
    clear KM_73
    have KD_81 := Lib.hid (KD_74.out.step b27)
    clear KD_74
    have HB82 := Lib.hid (keep2 b27 HB75.out)
    clear HB75 b27
    have HNC := nar_cases (c := ⟨ck, cz⟩) (H := Hh) S1.out GN.out H7.out hE.out N1.out (by rw [hT2.out]; exact hH)
    rw [hT2.out] at HNC
    clear hH
    obtain rfl : Hh = 21 := (by
      rcases HNC with q | q | q
      · exact q.2
      · exact absurd rfl q.1
      · exact absurd rfl q.1)
    clear HNC
    go_wp2
    go_ret
    exact ⟨rfl, HB82.out⟩
  · have NE := Lib.hid k1
    have p1 : (E != 21) = true := by simpa using k1
    have p2 : (E == 21) = false := by simpa using k1
    have p3 : decide (E = 21) = false := by simpa using k1
    clear k1
    have xC0 : u31.cell? ⟨w.heap.size + 1, 0, none⟩ = some (.int .i64 id) := KC_58.out.c 0 rfl
    have xC1 : u31.cell? ⟨w.heap.size + 1, 1, none⟩ = some (.slice a l.length cap) := KC_58.out.c 1 rfl
    have xC2 : u31.cell? ⟨w.heap.size + 1, 2, none⟩ = some (.int .i64 tag) := KC_58.out.c 2 rfl
    have zC : w.heap.size + 1 < u31.heap.size := KC_58.out.2.2
    have z2C : w.heap.size + 1 < u31.heap.size + 1 := by omega
    have xV0 : u31.cell? ⟨w.heap.size + 1 + 1, 0, none⟩ = some (.int .i64 ck) := KV_59.out.c 0 rfl
    have xV1 : u31.cell? ⟨w.heap.size + 1 + 1, 1, none⟩ = some (.int .i64 cz) := KV_59.out.c 1 rfl
    have zV : w.heap.size + 1 + 1 < u31.heap.size := KV_59.out.2.2
    have z2V : w.heap.size + 1 + 1 < u31.heap.size + 1 := by omega
    go_wp2_with fail
    refine (narrow_any id tag ck cz _ l _ (H.out.step HB62.out)).mono ?_
    rintro e u26 ⟨vr, rfl, b26, hp1, hp2⟩
    obtain ⟨su, rfl, hs⟩ := hp1 H7.out
    clear hp1 hp2
    rw [H7.out]
    have HS := Lib.hid hs
    obtain ⟨sa, sc, rfl, -⟩ := hs
    have hln : (l ++ [(⟨ck, cz⟩ : Cv)]).length = l.length + 1 := by simp
    rw [hln] at HS ⊢
    clear hln
    obtain ⟨T2, hT2⟩ : ∃ T2, tgN tag ⟨ck, cz⟩ = T2 := ⟨_, rfl⟩
    rw [hT2]
    replace hT2 := Lib.hid hT2
    replace HM := Lib.hid (HM.out.step b26)
    replace HCI := Lib.hid (HCI.out.step b26)
    clear xC0 xC1 xC2 zC z2C xV0 xV1 zV z2V
    have KA_63 := Lib.hid (KA_57.out.step b26)
    clear KA_57
    have KC_64 := Lib.hid (KC_58.out.step b26)
    clear KC_58
    have KV_65 := Lib.hid (KV_59.out.step b26)
    clear KV_59
    have KK_66 := Lib.hid (KK_60.out.step b26)
    clear KK_60
    have KM_67 := Lib.hid (KM_61.out.step b26)
    clear KM_61
    have HB68 := Lib.hid (keep2 b26 HB62.out)
    clear HB62 b26
    replace HM := Lib.hid (HM.out.step (al u26 (.cells #[.int .i64 id, .slice sa (l.length + 1) sc, .int .i64 T2] 27)))
    replace HCI := Lib.hid (HCI.out.step (al u26 (.cells #[.int .i64 id, .slice sa (l.length + 1) sc, .int .i64 T2] 27)))
    replace HS := Lib.hid (HS.out.step (al u26 (.cells #[.int .i64 id, .slice sa (l.length + 1) sc, .int .i64 T2] 27)))
    have KA_69 := Lib.hid (KA_63.out.alloc (.cells #[.int .i64 id, .slice sa (l.length + 1) sc, .int .i64 T2] 27))
    clear KA_63
    have KC_70 := Lib.hid (KC_64.out.alloc (.cells #[.int .i64 id, .slice sa (l.length + 1) sc, .int .i64 T2] 27))
    clear KC_64
    have KV_71 := Lib.hid (KV_65.out.alloc (.cells #[.int .i64 id, .slice sa (l.length + 1) sc, .int .i64 T2] 27))
    clear KV_65
    have KK_72 := Lib.hid (KK_66.out.alloc (.cells #[.int .i64 id, .slice sa (l.length + 1) sc, .int .i64 T2] 27))
    clear KK_66
    have KM_73 := Lib.hid (KM_67.out.alloc (.cells #[.int .i64 id, .slice sa (l.length + 1) sc, .int .i64 T2] 27))
    clear KM_67
    have KD_74 := Lib.hid (Cs.new u26 (u26.heap.size) #[.int .i64 id, .slice sa (l.length + 1) sc, .int .i64 T2] 27 (by simp))
    have HB75 : Hid (Below w.heap.size w (u26.alloc (.cells #[.int .i64 id, .slice sa (l.length + 1) sc, .int .i64 T2] 27))) := HB68.out.alloc HB68.out.size _
    clear HB68
    have xA0 : (u26.alloc (.cells #[.int .i64 id, .slice sa (l.length + 1) sc, .int .i64 T2] 27)).cell? ⟨w.heap.size, 0, none⟩ = some (.slice aa m.length ac) := KA_69.out.c 0 rfl
    have zA : w.heap.size < (u26.alloc (.cells #[.int .i64 id, .slice sa (l.length + 1) sc, .int .i64 T2] 27)).heap.size := KA_69.out.2.2
    have z2A : w.heap.size < (u26.alloc (.cells #[.int .i64 id, .slice sa (l.length + 1) sc, .int .i64 T2] 27)).heap.size + 1 := by omega
    have xK0 : (u26.alloc (.cells #[.int .i64 id, .slice sa (l.length + 1) sc, .int .i64 T2] 27)).cell? ⟨w.heap.size + 1 + 1 + 1, 0, none⟩ = some (.int .i64 r) := KK_72.out.c 0 rfl
    have xK1 : (u26.alloc (.cells #[.int .i64 id, .slice sa (l.length + 1) sc, .int .i64 T2] 27)).cell? ⟨w.heap.size + 1 + 1 + 1, 1, none⟩ = some (.int .i64 v) := KK_72.out.c 1 rfl
    have xK2 : (u26.alloc (.cells #[.int .i64 id, .slice sa (l.length + 1) sc, .int .i64 T2] 27)).cell? ⟨w.heap.size + 1 + 1 + 1, 2, none⟩ = some (.int .i64 x) := KK_72.out.c 2 rfl
    have xK3 : (u26.alloc (.cells #[.int .i64 id, .slice sa (l.length + 1) sc, .int .i64 T2] 27)).cell? ⟨w.heap.size + 1 + 1 + 1, 3, none⟩ = some (.int .i64 t) := KK_72.out.c 3 rfl
    have zK : w.heap.size + 1 + 1 + 1 < (u26.alloc (.cells #[.int .i64 id, .slice sa (l.length + 1) sc, .int .i64 T2] 27)).heap.size := KK_72.out.2.2
    have z2K : w.heap.size + 1 + 1 + 1 < (u26.alloc (.cells #[.int .i64 id, .slice sa (l.length + 1) sc, .int .i64 T2] 27)).heap.size + 1 := by omega
    have xD0 : (u26.alloc (.cells #[.int .i64 id, .slice sa (l.length + 1) sc, .int .i64 T2] 27)).cell? ⟨u26.heap.size, 0, none⟩ = some (.int .i64 id) := KD_74.out.c 0 rfl
    have xD1 : (u26.alloc (.cells #[.int .i64 id, .slice sa (l.length + 1) sc, .int .i64 T2] 27)).cell? ⟨u26.heap.size, 1, none⟩ = some (.slice sa (l.length + 1) sc) := KD_74.out.c 1 rfl
    have xD2 : (u26.alloc (.cells #[.int .i64 id, .slice sa (l.length + 1) sc, .int .i64 T2] 27)).cell? ⟨u26.heap.size, 2, none⟩ = some (.int .i64 T2) := KD_74.out.c 2 rfl
    have zD : u26.heap.size < (u26.alloc (.cells #[.int .i64 id, .slice sa (l.length + 1) sc, .int .i64 T2] 27)).heap.size := KD_74.out.2.2
    have z2D : u26.heap.size < (u26.alloc (.cells #[.int .i64 id, .slice sa (l.length + 1) sc, .int .i64 T2] 27)).heap.size + 1 := by omega
    go_wp2_with fail
    refine (chk_any key id T2 r v x t u _ _ m (l ++ [⟨ck, cz⟩]) _ HS.out (HA.out.step HB75.out).1).mono ?_
    rintro e u27 ⟨rfl, b27⟩
    obtain ⟨Hh, hH⟩ : ∃ Hh, ckR key m id T2 (l ++ [⟨ck, cz⟩]) r v x t u = Hh := ⟨_, rfl⟩
    rw [hH]
    replace HM := Lib.hid (HM.out.step b27)
    replace HCI := Lib.hid (HCI.out.step b27)
    replace HS := Lib.hid (HS.out.step b27)
    clear xA0 zA z2A xK0 xK1 xK2 xK3 zK z2K xD0 xD1 xD2 zD z2D
    have KA_76 := Lib.hid (KA_69.out.step b27)
    clear KA_69
    have KC_77 := Lib.hid (KC_70.out.step b27)
    clear KC_70
    have KV_78 := Lib.hid (KV_71.out.step b27)
    clear KV_71
    have KK_79 := Lib.hid (KK_72.out.step b27)
    clear KK_72
    have KM_80 := Lib.hid (KM_73.out.step b27)
    clear KM_73
    have KD_81 := Lib.hid (KD_74.out.step b27)
    clear KD_74
    have HB82 := Lib.hid (keep2 b27 HB75.out)
    clear HB75 b27
    have HNC := nar_cases (c := ⟨ck, cz⟩) (H := Hh) S1.out GN.out H7.out hE.out N1.out (by rw [hT2.out]; exact hH)
    rw [hT2.out] at HNC
    clear hH
    rcases HNC.resolve_left (fun q => NE.out q.1) with ⟨k1, rfl, k3⟩ | ⟨k1, k2⟩
    · have K3 := Lib.hid k3
      clear k3
      have kk1 : (E != 21) = true := by simpa using k1
      have kk2 : (E == 21) = false := by simpa using k1
      have kk3 : decide (E = 21) = false := by simpa using k1
      clear k1
      have xA0 : u27.cell? ⟨w.heap.size, 0, none⟩ = some (.slice aa m.length ac) := KA_76.out.c 0 rfl
      have zA : w.heap.size < u27.heap.size := KA_76.out.2.2
      have z2A : w.heap.size < u27.heap.size + 1 := by omega
      have xD0 : u27.cell? ⟨u26.heap.size, 0, none⟩ = some (.int .i64 id) := KD_81.out.c 0 rfl
      have xD1 : u27.cell? ⟨u26.heap.size, 1, none⟩ = some (.slice sa (l.length + 1) sc) := KD_81.out.c 1 rfl
      have xD2 : u27.cell? ⟨u26.heap.size, 2, none⟩ = some (.int .i64 T2) := KD_81.out.c 2 rfl
      have zD : u26.heap.size < u27.heap.size := KD_81.out.2.2
      have z2D : u26.heap.size < u27.heap.size + 1 := by omega
      go_wp2_with fail
      refine (has2_any _ m T2 _ (HA.out.step HB82.out).1 (by rw [← hT2.out]; have := Dg_bd [tag, 2, ck, cz]; exact ⟨by unfold tgN; simp only; omega, by unfold tgN; simp only; omega⟩)).mono ?_
      rintro e u28 ⟨rfl, b28⟩
      rw [K3.out]
      replace HM := Lib.hid (HM.out.step b28)
      replace HCI := Lib.hid (HCI.out.step b28)
      replace HS := Lib.hid (HS.out.step b28)
      clear xA0 zA z2A xD0 xD1 xD2 zD z2D
      have KA_83 := Lib.hid (KA_76.out.step b28)
      clear KA_76
      have KC_84 := Lib.hid (KC_77.out.step b28)
      clear KC_77
      have KV_85 := Lib.hid (KV_78.out.step b28)
      clear KV_78
      have KK_86 := Lib.hid (KK_79.out.step b28)
      clear KK_79
      have KM_87 := Lib.hid (KM_80.out.step b28)
      clear KM_80
      have KD_88 := Lib.hid (KD_81.out.step b28)
      clear KD_81
      have HB89 := Lib.hid (keep2 b28 HB82.out)
      clear HB82 b28
      go_wp2
      go_ret
      exact ⟨rfl, HB89.out⟩
    · have p1 : (E != 21) = true := by simpa using k1
      have p2 : (E == 21) = false := by simpa using k1
      have p3 : decide (E = 21) = false := by simpa using k1
      have q1 : (Hh != 21) = true := by simpa using k2
      have q2 : (Hh == 21) = false := by simpa using k2
      have q3 : decide (Hh = 21) = false := by simpa using k2
      clear k1 k2
      go_wp2
      go_ret
      exact ⟨rfl, HB82.out⟩
  · have NE := Lib.hid k1
    have p1 : (E != 21) = true := by simpa using k1
    have p2 : (E == 21) = false := by simpa using k1
    have p3 : decide (E = 21) = false := by simpa using k1
    clear k1
    have q2 : (E2 == 21) = false := by simpa using k2
    have q3 : decide (E2 = 21) = false := by simpa using k2
    clear k2
    have xC0 : u31.cell? ⟨w.heap.size + 1, 0, none⟩ = some (.int .i64 id) := KC_58.out.c 0 rfl
    have xC1 : u31.cell? ⟨w.heap.size + 1, 1, none⟩ = some (.slice a l.length cap) := KC_58.out.c 1 rfl
    have xC2 : u31.cell? ⟨w.heap.size + 1, 2, none⟩ = some (.int .i64 tag) := KC_58.out.c 2 rfl
    have zC : w.heap.size + 1 < u31.heap.size := KC_58.out.2.2
    have z2C : w.heap.size + 1 < u31.heap.size + 1 := by omega
    have xV0 : u31.cell? ⟨w.heap.size + 1 + 1, 0, none⟩ = some (.int .i64 ck) := KV_59.out.c 0 rfl
    have xV1 : u31.cell? ⟨w.heap.size + 1 + 1, 1, none⟩ = some (.int .i64 cz) := KV_59.out.c 1 rfl
    have zV : w.heap.size + 1 + 1 < u31.heap.size := KV_59.out.2.2
    have z2V : w.heap.size + 1 + 1 < u31.heap.size + 1 := by omega
    go_wp2_with fail
    refine (narrow_any id tag ck cz _ l _ (H.out.step HB62.out)).mono ?_
    rintro e u26 ⟨vr, rfl, b26, hp1, hp2⟩
    obtain ⟨su, rfl, hs⟩ := hp1 H7.out
    clear hp1 hp2
    rw [H7.out]
    have HS := Lib.hid hs
    obtain ⟨sa, sc, rfl, -⟩ := hs
    have hln : (l ++ [(⟨ck, cz⟩ : Cv)]).length = l.length + 1 := by simp
    rw [hln] at HS ⊢
    clear hln
    obtain ⟨T2, hT2⟩ : ∃ T2, tgN tag ⟨ck, cz⟩ = T2 := ⟨_, rfl⟩
    rw [hT2]
    replace hT2 := Lib.hid hT2
    replace HM := Lib.hid (HM.out.step b26)
    replace HCI := Lib.hid (HCI.out.step b26)
    clear xC0 xC1 xC2 zC z2C xV0 xV1 zV z2V
    have KA_63 := Lib.hid (KA_57.out.step b26)
    clear KA_57
    have KC_64 := Lib.hid (KC_58.out.step b26)
    clear KC_58
    have KV_65 := Lib.hid (KV_59.out.step b26)
    clear KV_59
    have KK_66 := Lib.hid (KK_60.out.step b26)
    clear KK_60
    have KM_67 := Lib.hid (KM_61.out.step b26)
    clear KM_61
    have HB68 := Lib.hid (keep2 b26 HB62.out)
    clear HB62 b26
    replace HM := Lib.hid (HM.out.step (al u26 (.cells #[.int .i64 id, .slice sa (l.length + 1) sc, .int .i64 T2] 27)))
    replace HCI := Lib.hid (HCI.out.step (al u26 (.cells #[.int .i64 id, .slice sa (l.length + 1) sc, .int .i64 T2] 27)))
    replace HS := Lib.hid (HS.out.step (al u26 (.cells #[.int .i64 id, .slice sa (l.length + 1) sc, .int .i64 T2] 27)))
    have KA_69 := Lib.hid (KA_63.out.alloc (.cells #[.int .i64 id, .slice sa (l.length + 1) sc, .int .i64 T2] 27))
    clear KA_63
    have KC_70 := Lib.hid (KC_64.out.alloc (.cells #[.int .i64 id, .slice sa (l.length + 1) sc, .int .i64 T2] 27))
    clear KC_64
    have KV_71 := Lib.hid (KV_65.out.alloc (.cells #[.int .i64 id, .slice sa (l.length + 1) sc, .int .i64 T2] 27))
    clear KV_65
    have KK_72 := Lib.hid (KK_66.out.alloc (.cells #[.int .i64 id, .slice sa (l.length + 1) sc, .int .i64 T2] 27))
    clear KK_66
    have KM_73 := Lib.hid (KM_67.out.alloc (.cells #[.int .i64 id, .slice sa (l.length + 1) sc, .int .i64 T2] 27))
    clear KM_67
    have KD_74 := Lib.hid (Cs.new u26 (u26.heap.size) #[.int .i64 id, .slice sa (l.length + 1) sc, .int .i64 T2] 27 (by simp))
    have HB75 : Hid (Below w.heap.size w (u26.alloc (.cells #[.int .i64 id, .slice sa (l.length + 1) sc, .int .i64 T2] 27))) := HB68.out.alloc HB68.out.size _
    clear HB68
    have xA0 : (u26.alloc (.cells #[.int .i64 id, .slice sa (l.length + 1) sc, .int .i64 T2] 27)).cell? ⟨w.heap.size, 0, none⟩ = some (.slice aa m.length ac) := KA_69.out.c 0 rfl
    have zA : w.heap.size < (u26.alloc (.cells #[.int .i64 id, .slice sa (l.length + 1) sc, .int .i64 T2] 27)).heap.size := KA_69.out.2.2
    have z2A : w.heap.size < (u26.alloc (.cells #[.int .i64 id, .slice sa (l.length + 1) sc, .int .i64 T2] 27)).heap.size + 1 := by omega
    have xK0 : (u26.alloc (.cells #[.int .i64 id, .slice sa (l.length + 1) sc, .int .i64 T2] 27)).cell? ⟨w.heap.size + 1 + 1 + 1, 0, none⟩ = some (.int .i64 r) := KK_72.out.c 0 rfl
    have xK1 : (u26.alloc (.cells #[.int .i64 id, .slice sa (l.length + 1) sc, .int .i64 T2] 27)).cell? ⟨w.heap.size + 1 + 1 + 1, 1, none⟩ = some (.int .i64 v) := KK_72.out.c 1 rfl
    have xK2 : (u26.alloc (.cells #[.int .i64 id, .slice sa (l.length + 1) sc, .int .i64 T2] 27)).cell? ⟨w.heap.size + 1 + 1 + 1, 2, none⟩ = some (.int .i64 x) := KK_72.out.c 2 rfl
    have xK3 : (u26.alloc (.cells #[.int .i64 id, .slice sa (l.length + 1) sc, .int .i64 T2] 27)).cell? ⟨w.heap.size + 1 + 1 + 1, 3, none⟩ = some (.int .i64 t) := KK_72.out.c 3 rfl
    have zK : w.heap.size + 1 + 1 + 1 < (u26.alloc (.cells #[.int .i64 id, .slice sa (l.length + 1) sc, .int .i64 T2] 27)).heap.size := KK_72.out.2.2
    have z2K : w.heap.size + 1 + 1 + 1 < (u26.alloc (.cells #[.int .i64 id, .slice sa (l.length + 1) sc, .int .i64 T2] 27)).heap.size + 1 := by omega
    have xD0 : (u26.alloc (.cells #[.int .i64 id, .slice sa (l.length + 1) sc, .int .i64 T2] 27)).cell? ⟨u26.heap.size, 0, none⟩ = some (.int .i64 id) := KD_74.out.c 0 rfl
    have xD1 : (u26.alloc (.cells #[.int .i64 id, .slice sa (l.length + 1) sc, .int .i64 T2] 27)).cell? ⟨u26.heap.size, 1, none⟩ = some (.slice sa (l.length + 1) sc) := KD_74.out.c 1 rfl
    have xD2 : (u26.alloc (.cells #[.int .i64 id, .slice sa (l.length + 1) sc, .int .i64 T2] 27)).cell? ⟨u26.heap.size, 2, none⟩ = some (.int .i64 T2) := KD_74.out.c 2 rfl
    have zD : u26.heap.size < (u26.alloc (.cells #[.int .i64 id, .slice sa (l.length + 1) sc, .int .i64 T2] 27)).heap.size := KD_74.out.2.2
    have z2D : u26.heap.size < (u26.alloc (.cells #[.int .i64 id, .slice sa (l.length + 1) sc, .int .i64 T2] 27)).heap.size + 1 := by omega
    go_wp2_with fail
    refine (chk_any key id T2 r v x t u _ _ m (l ++ [⟨ck, cz⟩]) _ HS.out (HA.out.step HB75.out).1).mono ?_
    rintro e u27 ⟨rfl, b27⟩
    obtain ⟨Hh, hH⟩ : ∃ Hh, ckR key m id T2 (l ++ [⟨ck, cz⟩]) r v x t u = Hh := ⟨_, rfl⟩
    rw [hH]
    replace HM := Lib.hid (HM.out.step b27)
    replace HCI := Lib.hid (HCI.out.step b27)
    replace HS := Lib.hid (HS.out.step b27)
    clear xA0 zA z2A xK0 xK1 xK2 xK3 zK z2K xD0 xD1 xD2 zD z2D
    have KA_76 := Lib.hid (KA_69.out.step b27)
    clear KA_69
    have KC_77 := Lib.hid (KC_70.out.step b27)
    clear KC_70
    have KV_78 := Lib.hid (KV_71.out.step b27)
    clear KV_71
    have KK_79 := Lib.hid (KK_72.out.step b27)
    clear KK_72
    have KM_80 := Lib.hid (KM_73.out.step b27)
    clear KM_73
    have KD_81 := Lib.hid (KD_74.out.step b27)
    clear KD_74
    have HB82 := Lib.hid (keep2 b27 HB75.out)
    clear HB75 b27
    have HNC := nar_cases (c := ⟨ck, cz⟩) (H := Hh) S1.out GN.out H7.out hE.out N1.out (by rw [hT2.out]; exact hH)
    rw [hT2.out] at HNC
    clear hH
    rcases HNC.resolve_left (fun q => NE.out q.1) with ⟨k1, rfl, k3⟩ | ⟨k1, k2⟩
    · have K3 := Lib.hid k3
      clear k3
      have kk1 : (E != 21) = true := by simpa using k1
      have kk2 : (E == 21) = false := by simpa using k1
      have kk3 : decide (E = 21) = false := by simpa using k1
      clear k1
      have xA0 : u27.cell? ⟨w.heap.size, 0, none⟩ = some (.slice aa m.length ac) := KA_76.out.c 0 rfl
      have zA : w.heap.size < u27.heap.size := KA_76.out.2.2
      have z2A : w.heap.size < u27.heap.size + 1 := by omega
      have xD0 : u27.cell? ⟨u26.heap.size, 0, none⟩ = some (.int .i64 id) := KD_81.out.c 0 rfl
      have xD1 : u27.cell? ⟨u26.heap.size, 1, none⟩ = some (.slice sa (l.length + 1) sc) := KD_81.out.c 1 rfl
      have xD2 : u27.cell? ⟨u26.heap.size, 2, none⟩ = some (.int .i64 T2) := KD_81.out.c 2 rfl
      have zD : u26.heap.size < u27.heap.size := KD_81.out.2.2
      have z2D : u26.heap.size < u27.heap.size + 1 := by omega
      go_wp2_with fail
      refine (has2_any _ m T2 _ (HA.out.step HB82.out).1 (by rw [← hT2.out]; have := Dg_bd [tag, 2, ck, cz]; exact ⟨by unfold tgN; simp only; omega, by unfold tgN; simp only; omega⟩)).mono ?_
      rintro e u28 ⟨rfl, b28⟩
      rw [K3.out]
      replace HM := Lib.hid (HM.out.step b28)
      replace HCI := Lib.hid (HCI.out.step b28)
      replace HS := Lib.hid (HS.out.step b28)
      clear xA0 zA z2A xD0 xD1 xD2 zD z2D
      have KA_83 := Lib.hid (KA_76.out.step b28)
      clear KA_76
      have KC_84 := Lib.hid (KC_77.out.step b28)
      clear KC_77
      have KV_85 := Lib.hid (KV_78.out.step b28)
      clear KV_78
      have KK_86 := Lib.hid (KK_79.out.step b28)
      clear KK_79
      have KM_87 := Lib.hid (KM_80.out.step b28)
      clear KM_80
      have KD_88 := Lib.hid (KD_81.out.step b28)
      clear KD_81
      have HB89 := Lib.hid (keep2 b28 HB82.out)
      clear HB82 b28
      go_wp2
      go_ret
      exact ⟨rfl, HB89.out⟩
    · have p1 : (E != 21) = true := by simpa using k1
      have p2 : (E == 21) = false := by simpa using k1
      have p3 : decide (E = 21) = false := by simpa using k1
      have q1 : (Hh != 21) = true := by simpa using k2
      have q2 : (Hh == 21) = false := by simpa using k2
      have q3 : decide (Hh = 21) = false := by simpa using k2
      clear k1 k2
      go_wp2
      go_ret
      exact ⟨rfl, HB82.out⟩
theorem nar_any (va : Value) (m : List Int) (key id tag : Int) (sl : Value) (l : List Cv) (ck cz r v x t u tg : Int) (w : World) (ha : TgAt w va m) (h : CvsAt w sl l) (hg : 0 ≤ tg ∧ tg ≤ 4294967295) : Calls Try.prog 7 #[.agg #[va], .int .i64 key, .agg #[.int .i64 id, sl, .int .i64 tag], .agg #[.int .i64 ck, .int .i64 cz], .agg #[.int .i64 r, .int .i64 v, .int .i64 x, .int .i64 t], .int .i64 u, .int .u32 tg] w fun e w' => e = .returned (.bool true) ∧ Below w.heap.size w w' := by
  cases hf : fwB m.length
  · exact nar_few va m key id tag sl l ck cz r v x t u tg w ha h hg hf
  · cases h1 : stB m
    · exact nar_va va m key id tag sl l ck cz r v x t u tg w ha h hg hf h1
    · by_cases h3 : l.length ≤ 20
      · cases h4 : gnB key id tag l
        · exact nar_gen va m key id tag sl l ck cz r v x t u tg w ha h hg hf h1 h3 h4
        · by_cases h5 : ckR key m id tag l r v x t u = 1
          · exact nar_one va m key id tag sl l ck cz r v x t u tg w ha h hg hf h1 h3 h4 h5
          · have hn : tgB (tg % 2147483647) = true := inr_iff.2 ⟨by omega, by omega⟩
            by_cases h6 : mgE m [tg % 2147483647] = 0
            · by_cases h7 : nrE id tag l ck cz = 0
              · exact nar_zero_ok va m key id tag sl l ck cz r v x t u tg w ha h hg hf h1 h3 h4 h5 h6 h7
              · exact nar_zero_bad va m key id tag sl l ck cz r v x t u tg w ha h hg hf h1 h3 h4 h5 h6 h7
            · have h8 : mgE m [tg % 2147483647] = 30 := by
                unfold mgE at h6 ⊢
                rw [h1, st_one, hn] at h6 ⊢
                by_cases hl : (mg m [tg % 2147483647]).length ≤ 400
                · simp [hl] at h6
                · simp [hl]
              by_cases h7 : nrE id tag l ck cz = 0
              · exact nar_full_ok va m key id tag sl l ck cz r v x t u tg w ha h hg hf h1 h3 h4 h5 h8 h7
              · exact nar_full_bad va m key id tag sl l ck cz r v x t u tg w ha h hg hf h1 h3 h4 h5 h8 h7
      · exact nar_len va m key id tag sl l ck cz r v x t u tg w ha h hg hf h1 (by omega)
end Go.Proofs.Ytpoldplmaomkaaa
