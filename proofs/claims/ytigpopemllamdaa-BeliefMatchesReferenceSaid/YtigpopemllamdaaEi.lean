/- The law 'BeliefMatchesReference'. -/
import Derived.Test.YtigpopemllamdaaEh
import Derived.Test.YtigpopemllamdaaCf
import Derived.Deep.CutRange
namespace Go.Proofs.Ytigpopemllamdaa
open Go.RowKit

set_option maxRecDepth 100000 in
set_option maxHeartbeats 8000000 in
theorem rsent_q {V V' : List Int} {L M' : List Od} (o : Od) {E : Int} (hE : snE V L o = E) (hV' : rV E (L ++ [o]) = V') (hM' : rM E (L ++ [o]) = M') (va : Option Addr) (vc : Nat) (sa : Option Addr) (sc : Nat) (w : World) (h : Rb V L va vc sa sc w) (h9 : L.length ≤ 300) (h8 : V.length ≤ 300) :
    Calls Try.prog 12 #[.agg #[.slice va V.length vc, .slice sa L.length sc], .agg #[.int .i64 o.a, .int .i64 o.b, .int .i64 o.c, .int .i64 o.d]] w (ChQ V' M' E w) := by
  subst hV' hM' hE
  cases hw : isW V L
  · have hE : snE V L o = 1 := by rw [snE_W, if_neg (by rw [hw]; exact Bool.false_ne_true)]
    rw [hE]
    refine (rsent_no va vc V sa sc L o w h h9 h8 hw).mono ?_
    rintro e w' ⟨rfl, b⟩
    exact chq_zero (by decide) rfl rfl b
  · have hE : snE V L o = sdE L o := by rw [snE_W, if_pos hw]
    rw [hE]
    cases hi : isO o
    · have h2 : sdE L o = 1 := by unfold sdE; rw [if_pos (by rw [hi]; rfl)]
      rw [h2]
      refine (rsent_bad va vc V sa sc L o w h h9 h8 hw hi).mono ?_
      rintro e w' ⟨rfl, b⟩
      exact chq_zero (by decide) rfl rfl b
    · have h3 := hi
      unfold isO at h3
      simp only [Bool.and_eq_true] at h3
      obtain ⟨⟨⟨i0, i1⟩, i2⟩, i3⟩ := h3
      obtain ⟨w1, w2, w3, w4, w5, w6, w7⟩ := (isW_iff V L).1 hw
      have hpos : 0 < L.length := by
        obtain ⟨x, hx, -⟩ := w3
        exact List.length_pos_of_mem hx
      have hC : snC L = (decide ((flt L).length = 8) || decide (L.length = 20)) := by
        unfold snC
        congr 1
        · by_cases h8 : (flt L).length = 8
          · rw [decide_eq_true h8, decide_eq_true (by omega)]
          · rw [decide_eq_false h8, decide_eq_false (by omega)]
        · by_cases h8 : L.length = 20
          · rw [decide_eq_true h8, decide_eq_true (by omega)]
          · rw [decide_eq_false h8, decide_eq_false (by omega)]
      refine (rsent_go va vc V sa sc L o w h h9 h8 hw i0 i1 i2 i3 hpos).mono ?_
      rintro e w' (⟨ha, rfl, b⟩ | ⟨ha, hb, rfl, b⟩ | ⟨ha, hb, hc, rfl, b⟩ | ⟨ha, hb, hc, hq⟩)
      · unfold snA at ha
        have h2 : sdE L o = 1 := by unfold sdE; rw [if_pos (by rw [ha, Bool.or_true])]
        rw [h2]
        exact chq_zero (by decide) rfl rfl b
      · unfold snA at ha
        unfold snB at hb
        have h2 : sdE L o = 23 := by unfold sdE; rw [if_neg (by rw [hi, ha]; simp), if_pos hb]
        rw [h2]
        exact chq_zero (by decide) rfl rfl b
      · unfold snA at ha
        unfold snB at hb
        rw [hC] at hc
        have h2 : sdE L o = 2 := by unfold sdE; rw [if_neg (by rw [hi, ha]; simp), if_neg (by rw [hb]; simp), if_pos hc]
        rw [h2]
        exact chq_zero (by decide) rfl rfl b
      · unfold snA at ha
        unfold snB at hb
        rw [hC] at hc
        have h2 : sdE L o = 0 := by unfold sdE; rw [if_neg (by rw [hi, ha]; simp), if_neg (by rw [hb]; simp), if_neg (by rw [hc]; simp)]
        have h4 := sent_ok hw h2
        rw [rM_W _ rfl] at h4
        have h5 := ((isW_iff _ _).1 h4).2.2.2.2.2.2
        rw [h2, rM_W _ rfl, h5]
        exact hq
theorem lenM_of {E : Int} {M : List Od} (h : E = 0 → isW (rV 0 M) (rM 0 M) = true) : (rM E M).length ≤ 1000 := by
  by_cases hE : E = 0
  · subst hE
    have := (isW_len (h rfl)).1; omega
  · unfold rM; rw [if_neg hE]; simp
theorem len_sn (V : List Int) (L : List Od) (o : Od) : (rM (snE V L o) (L ++ [o])).length ≤ 1000 := lenM_of fun h => by
  cases hw : isW V L
  · rw [snE_W, if_neg (by rw [hw]; simp)] at h; cases h
  · rw [snE_W, if_pos hw] at h; exact sent_ok hw h
theorem len_cn (V : List Int) (L : List Od) (q : Int) : (rM (cnE V L q) (cfM q L)).length ≤ 1000 := lenM_of fun h => by
  cases hw : isW V L
  · rw [cnE_W, if_neg (by rw [hw]; simp)] at h; cases h
  · rw [cnE_W, if_pos hw] at h; exact conf_ok hw h
theorem len_rn (V : List Int) (L : List Od) (v t : Int) : (rM (rnE V L v t) (rpM L v t)).length ≤ 1000 := lenM_of fun h => by
  cases hw : isW V L
  · rw [rnE_W, if_neg (by rw [hw]; simp)] at h; cases h
  · rw [rnE_W, if_pos hw] at h; exact rep_ok hw h
theorem surely_q (u s : Value) (zs : List Int) (mv : Int) (mk : Bool) (h1 : (if zs.length = 1 then zs.getD 0 0 else 0) = mv) (h2 : decide (zs.length = 1) = mk) (w : World) (h : IntsAt w u zs) (h9 : zs.length ≤ 100000) :
    Calls Try.prog 17 #[.agg #[u, s]] w fun e w' => e = .returned (.tuple #[.int .i64 mv, .bool mk]) ∧ Below w.heap.size w w' := by
  subst h1 h2
  exact surely_any u s zs w h h9
theorem rsurely_q (u s : Value) (zs : List Int) (mv : Int) (mk : Bool) (h1 : (if zs.length = 1 then zs.getD 0 0 else 0) = mv) (h2 : decide (zs.length = 1) = mk) (w : World) (h : IntsAt w u zs) (h9 : zs.length ≤ 100000) :
    Calls Try.prog 18 #[.agg #[u, s]] w fun e w' => e = .returned (.tuple #[.int .i64 mv, .bool mk]) ∧ Below w.heap.size w w' := by
  subst h1 h2
  exact rsurely_any u s zs w h h9
theorem can_q (u s : Value) (zs : List Int) (x : Int) (c : Bool) (hc : zs.contains x = c) (w : World) (h : IntsAt w u zs) (h9 : zs.length ≤ 300) :
    Calls Try.prog 20 #[.agg #[u, s], .int .i64 x] w fun e w' => e = .returned (.bool c) ∧ Below w.heap.size w w' := by
  subst hc
  exact can_any u s zs x w h (by omega)
theorem rcan_q (s : Value) (va : Option Addr) (vc : Nat) (V : List Int) (x : Int) (c : Bool) (hc : V.contains x = c) (w : World) (h : IntsAt w (.slice va V.length vc) V) (h9 : V.length ≤ 300) :
    Calls Try.prog 21 #[.agg #[.slice va V.length vc, s], .int .i64 x] w fun e w' => e = .returned (.bool c) ∧ Below w.heap.size w w' := by
  subst hc
  exact rcan_any s va vc V x w h (by omega)
def KnQ (x : Int) (v : Value) (w : World) : Prop := ∃ (ua : Option Addr) (uc : Nat) (fa : Option Addr) (fc : Nat), v = .agg #[.slice ua (kV x).length uc, .slice fa (kM x).length fc] ∧ Rb (kV x) (kM x) ua uc fa fc w
theorem KnQ.step {x : Int} {v : Value} {w w' : World} (h : KnQ x v w) (hb : Below w.heap.size w w') : KnQ x v w' := by
  obtain ⟨ua, uc, fa, fc, e, h⟩ := h
  exact ⟨ua, uc, fa, fc, e, h.step hb⟩
theorem kM_len (x : Int) : (kM x).length ≤ 1000 := by
  unfold kM
  by_cases h : inr x 0 15 = true
  · rw [if_pos h]; simp
  · rw [if_neg h]; simp
set_option maxRecDepth 100000 in
set_option maxHeartbeats 8000000 in
theorem match_noL (va : Option Addr) (vc : Nat) (V : List Int) (sa : Option Addr) (sc : Nat) (L : List Od) (o : Od) (q x t : Int) (w : World) (h : Rb V L va vc sa sc w) (_ : L.length ≤ maxLen) (_ : V.length ≤ maxLen) (hl : 30 < L.length) :
    Calls Try.prog 3 #[.agg #[.slice va V.length vc, .slice sa L.length sc], .agg #[.int .i64 o.a, .int .i64 o.b, .int .i64 o.c, .int .i64 o.d], .int .i64 q, .int .i64 x, .int .i64 t] w fun e w' => e = .returned (.bool true) ∧ Below w.heap.size w w' := by
  have H0 := Lib.hid (Below.refl w.heap.size w)
  have H1 := Lib.hid (h)
  clear h
  have H2 := Lib.hid (H1.out.step (al w (.cells #[.slice va V.length vc, .slice sa L.length sc] 25)))
  clear H1
  have H3 := Lib.hid (keep2 (al w (.cells #[.slice va V.length vc, .slice sa L.length sc] 25)) H0.out)
  clear H0
  have H4 := Lib.hid (Cs.new w (w.heap.size) #[.slice va V.length vc, .slice sa L.length sc] 25 (by simp))
  have H5 := Lib.hid (H2.out.step (al (w.alloc (.cells #[.slice va V.length vc, .slice sa L.length sc] 25)) (.cells #[.int .i64 o.a, .int .i64 o.b, .int .i64 o.c, .int .i64 o.d] 27)))
  clear H2
  have H6 := Lib.hid (H4.out.step (al (w.alloc (.cells #[.slice va V.length vc, .slice sa L.length sc] 25)) (.cells #[.int .i64 o.a, .int .i64 o.b, .int .i64 o.c, .int .i64 o.d] 27)))
  clear H4
  have H7 := Lib.hid (keep2 (al (w.alloc (.cells #[.slice va V.length vc, .slice sa L.length sc] 25)) (.cells #[.int .i64 o.a, .int .i64 o.b, .int .i64 o.c, .int .i64 o.d] 27)) H3.out)
  clear H3
  have H8 := Lib.hid (Cs.new (w.alloc (.cells #[.slice va V.length vc, .slice sa L.length sc] 25)) (w.heap.size + 1) #[.int .i64 o.a, .int .i64 o.b, .int .i64 o.c, .int .i64 o.d] 27 (by simp))
  go_enter Try.func3, Try.ntmps3
  go_wp2_with fail
  refine (head_any _).mono ?_
  rintro e u1 ⟨rfl, b1⟩
  have H9 := Lib.hid (H5.out.step b1)
  clear H5
  have H10 := Lib.hid (H6.out.step b1)
  clear H6
  have H11 := Lib.hid (H8.out.step b1)
  clear H8
  have H12 := Lib.hid (keep2 b1 H7.out)
  clear H7
  clear b1
  have xb0 : u1.cell? ⟨(w.heap.size), 0, none⟩ = some (.slice va V.length vc) := H10.out.c 0 rfl
  have xb1 : u1.cell? ⟨(w.heap.size), 1, none⟩ = some (.slice sa L.length sc) := H10.out.c 1 rfl
  have zb : (w.heap.size) < u1.heap.size := H10.out.2.2
  have t1 : decide ((30 : Int) < (L.length : Int)) = true := decide_eq_true (by omega)
  have t2 : (30 : Int) < (L.length : Int) := by omega
  go_wp2
  go_ret
  exact ⟨rfl, H12.out⟩
set_option maxRecDepth 100000 in
set_option maxHeartbeats 8000000 in
theorem match_noV (va : Option Addr) (vc : Nat) (V : List Int) (sa : Option Addr) (sc : Nat) (L : List Od) (o : Od) (q x t : Int) (w : World) (h : Rb V L va vc sa sc w) (_ : L.length ≤ maxLen) (_ : V.length ≤ maxLen) (hl : ¬ 30 < L.length) (hv : 30 < V.length) :
    Calls Try.prog 3 #[.agg #[.slice va V.length vc, .slice sa L.length sc], .agg #[.int .i64 o.a, .int .i64 o.b, .int .i64 o.c, .int .i64 o.d], .int .i64 q, .int .i64 x, .int .i64 t] w fun e w' => e = .returned (.bool true) ∧ Below w.heap.size w w' := by
  have H0 := Lib.hid (Below.refl w.heap.size w)
  have H1 := Lib.hid (h)
  clear h
  have H2 := Lib.hid (H1.out.step (al w (.cells #[.slice va V.length vc, .slice sa L.length sc] 25)))
  clear H1
  have H3 := Lib.hid (keep2 (al w (.cells #[.slice va V.length vc, .slice sa L.length sc] 25)) H0.out)
  clear H0
  have H4 := Lib.hid (Cs.new w (w.heap.size) #[.slice va V.length vc, .slice sa L.length sc] 25 (by simp))
  have H5 := Lib.hid (H2.out.step (al (w.alloc (.cells #[.slice va V.length vc, .slice sa L.length sc] 25)) (.cells #[.int .i64 o.a, .int .i64 o.b, .int .i64 o.c, .int .i64 o.d] 27)))
  clear H2
  have H6 := Lib.hid (H4.out.step (al (w.alloc (.cells #[.slice va V.length vc, .slice sa L.length sc] 25)) (.cells #[.int .i64 o.a, .int .i64 o.b, .int .i64 o.c, .int .i64 o.d] 27)))
  clear H4
  have H7 := Lib.hid (keep2 (al (w.alloc (.cells #[.slice va V.length vc, .slice sa L.length sc] 25)) (.cells #[.int .i64 o.a, .int .i64 o.b, .int .i64 o.c, .int .i64 o.d] 27)) H3.out)
  clear H3
  have H8 := Lib.hid (Cs.new (w.alloc (.cells #[.slice va V.length vc, .slice sa L.length sc] 25)) (w.heap.size + 1) #[.int .i64 o.a, .int .i64 o.b, .int .i64 o.c, .int .i64 o.d] 27 (by simp))
  go_enter Try.func3, Try.ntmps3
  go_wp2_with fail
  refine (head_any _).mono ?_
  rintro e u1 ⟨rfl, b1⟩
  have H9 := Lib.hid (H5.out.step b1)
  clear H5
  have H10 := Lib.hid (H6.out.step b1)
  clear H6
  have H11 := Lib.hid (H8.out.step b1)
  clear H8
  have H12 := Lib.hid (keep2 b1 H7.out)
  clear H7
  clear b1
  have xb0 : u1.cell? ⟨(w.heap.size), 0, none⟩ = some (.slice va V.length vc) := H10.out.c 0 rfl
  have xb1 : u1.cell? ⟨(w.heap.size), 1, none⟩ = some (.slice sa L.length sc) := H10.out.c 1 rfl
  have zb : (w.heap.size) < u1.heap.size := H10.out.2.2
  have t1 : decide ((30 : Int) < (L.length : Int)) = false := decide_eq_false (by omega)
  have t2 : ¬ (30 : Int) < (L.length : Int) := by omega
  have t3 : decide ((30 : Int) < (V.length : Int)) = true := decide_eq_true (by omega)
  have t4 : (30 : Int) < (V.length : Int) := by omega
  go_wp2
  go_ret
  exact ⟨rfl, H12.out⟩
set_option maxRecDepth 100000 in
set_option maxHeartbeats 8000000 in
theorem match_go (va : Option Addr) (vc : Nat) (V : List Int) (sa : Option Addr) (sc : Nat) (L : List Od) (o : Od) (q x t : Int) (w : World) (h : Rb V L va vc sa sc w) (_ : L.length ≤ maxLen) (_ : V.length ≤ maxLen) (hl : ¬ 30 < L.length) (hv : ¬ 30 < V.length) {er1 er2 er3 : Int} {V1 V2 V3 : List Int} {M1 M2 M3 : List Od} (hE1 : snE V L o = er1) (hV1 : rV er1 (L ++ [o]) = V1) (hM1 : rM er1 (L ++ [o]) = M1) (hE2 : cnE V L q = er2) (hV2 : rV er2 (cfM q L) = V2) (hM2 : rM er2 (cfM q L) = M2) (hE3 : rnE V L x t = er3) (hV3 : rV er3 (rpM L x t) = V3) (hM3 : rM er3 (rpM L x t) = M3) {mv : Int} {mk c : Bool} (hmv : (if V.length = 1 then V.getD 0 0 else 0) = mv) (hmk : decide (V.length = 1) = mk) (hc : V.contains x = c) (hL1 : M1.length ≤ 1000) (hL2 : M2.length ≤ 1000) (hL3 : M3.length ≤ 1000) :
    Calls Try.prog 3 #[.agg #[.slice va V.length vc, .slice sa L.length sc], .agg #[.int .i64 o.a, .int .i64 o.b, .int .i64 o.c, .int .i64 o.d], .int .i64 q, .int .i64 x, .int .i64 t] w fun e w' => e = .returned (.bool true) ∧ Below w.heap.size w w' := by
  have HE1x := Lib.hid hE1
  have HV1x := Lib.hid hV1
  have HM1x := Lib.hid hM1
  have HL1x := Lib.hid hL1
  have HE2x := Lib.hid hE2
  have HV2x := Lib.hid hV2
  have HM2x := Lib.hid hM2
  have HL2x := Lib.hid hL2
  have HE3x := Lib.hid hE3
  have HV3x := Lib.hid hV3
  have HM3x := Lib.hid hM3
  have HL3x := Lib.hid hL3
  have HMVx := Lib.hid hmv
  have HMKx := Lib.hid hmk
  have HCx := Lib.hid hc
  clear hE1 hV1 hM1 hL1 hE2 hV2 hM2 hL2 hE3 hV3 hM3 hL3 hmv hmk hc
  have H0 := Lib.hid (Below.refl w.heap.size w)
  have H1 := Lib.hid (h)
  clear h
  have H2 := Lib.hid (H1.out.step (al w (.cells #[.slice va V.length vc, .slice sa L.length sc] 25)))
  clear H1
  have H3 := Lib.hid (keep2 (al w (.cells #[.slice va V.length vc, .slice sa L.length sc] 25)) H0.out)
  clear H0
  have H4 := Lib.hid (Cs.new w (w.heap.size) #[.slice va V.length vc, .slice sa L.length sc] 25 (by simp))
  have H5 := Lib.hid (H2.out.step (al (w.alloc (.cells #[.slice va V.length vc, .slice sa L.length sc] 25)) (.cells #[.int .i64 o.a, .int .i64 o.b, .int .i64 o.c, .int .i64 o.d] 27)))
  clear H2
  have H6 := Lib.hid (H4.out.step (al (w.alloc (.cells #[.slice va V.length vc, .slice sa L.length sc] 25)) (.cells #[.int .i64 o.a, .int .i64 o.b, .int .i64 o.c, .int .i64 o.d] 27)))
  clear H4
  have H7 := Lib.hid (keep2 (al (w.alloc (.cells #[.slice va V.length vc, .slice sa L.length sc] 25)) (.cells #[.int .i64 o.a, .int .i64 o.b, .int .i64 o.c, .int .i64 o.d] 27)) H3.out)
  clear H3
  have H8 := Lib.hid (Cs.new (w.alloc (.cells #[.slice va V.length vc, .slice sa L.length sc] 25)) (w.heap.size + 1) #[.int .i64 o.a, .int .i64 o.b, .int .i64 o.c, .int .i64 o.d] 27 (by simp))
  go_enter Try.func3, Try.ntmps3
  go_wp2_with fail
  refine (head_any _).mono ?_
  rintro e u1 ⟨rfl, b1⟩
  have H9 := Lib.hid (H5.out.step b1)
  clear H5
  have H10 := Lib.hid (H6.out.step b1)
  clear H6
  have H11 := Lib.hid (H8.out.step b1)
  clear H8
  have H12 := Lib.hid (keep2 b1 H7.out)
  clear H7
  clear b1
  have xb0 : u1.cell? ⟨(w.heap.size), 0, none⟩ = some (.slice va V.length vc) := H10.out.c 0 rfl
  have xb1 : u1.cell? ⟨(w.heap.size), 1, none⟩ = some (.slice sa L.length sc) := H10.out.c 1 rfl
  have zb : (w.heap.size) < u1.heap.size := H10.out.2.2
  have t1 : decide ((30 : Int) < (L.length : Int)) = false := decide_eq_false (by omega)
  have t2 : ¬ (30 : Int) < (L.length : Int) := by omega
  have t3 : decide ((30 : Int) < (V.length : Int)) = false := decide_eq_false (by omega)
  have t4 : ¬ (30 : Int) < (V.length : Int) := by omega
  have HSL := Lib.hid (show L.length ≤ 300 by omega)
  have HSV := Lib.hid (show V.length ≤ 300 by omega)
  clear hl hv
  have xo0 : u1.cell? ⟨(w.heap.size + 1), 0, none⟩ = some (.int .i64 o.a) := H11.out.c 0 rfl
  have xo1 : u1.cell? ⟨(w.heap.size + 1), 1, none⟩ = some (.int .i64 o.b) := H11.out.c 1 rfl
  have xo2 : u1.cell? ⟨(w.heap.size + 1), 2, none⟩ = some (.int .i64 o.c) := H11.out.c 2 rfl
  have xo3 : u1.cell? ⟨(w.heap.size + 1), 3, none⟩ = some (.int .i64 o.d) := H11.out.c 3 rfl
  have zo : (w.heap.size + 1) < u1.heap.size := H11.out.2.2
  go_wp2_with fail
  refine (sent_q o HE1x.out HV1x.out HM1x.out va vc sa sc _ H9.out HSL.out HSV.out).mono ?_
  rintro e u2 ⟨ua1, uc1, fa1, fc1, rfl, b2, hr⟩
  clear xb0 xb1 zb t1 t2 t3 t4 xo0 xo1 xo2 xo3 zo
  have H13 := Lib.hid (H9.out.step b2)
  clear H9
  have H14 := Lib.hid (H10.out.step b2)
  clear H10
  have H15 := Lib.hid (H11.out.step b2)
  clear H11
  have H16 := Lib.hid (keep2 b2 H12.out)
  clear H12
  clear b2
  have H17 := Lib.hid (hr)
  clear hr
  have H18 := Lib.hid (H13.out.step (al u2 (.cells #[.slice ua1 V1.length uc1, .slice fa1 M1.length fc1] 25)))
  clear H13
  have H19 := Lib.hid (H14.out.step (al u2 (.cells #[.slice ua1 V1.length uc1, .slice fa1 M1.length fc1] 25)))
  clear H14
  have H20 := Lib.hid (H15.out.step (al u2 (.cells #[.slice ua1 V1.length uc1, .slice fa1 M1.length fc1] 25)))
  clear H15
  have H21 := Lib.hid (H17.out.step (al u2 (.cells #[.slice ua1 V1.length uc1, .slice fa1 M1.length fc1] 25)))
  clear H17
  have H22 := Lib.hid (keep2 (al u2 (.cells #[.slice ua1 V1.length uc1, .slice fa1 M1.length fc1] 25)) H16.out)
  clear H16
  have H23 := Lib.hid (Cs.new u2 (u2.heap.size) #[.slice ua1 V1.length uc1, .slice fa1 M1.length fc1] 25 (by simp))
  have xb0 : (u2.alloc (.cells #[.slice ua1 V1.length uc1, .slice fa1 M1.length fc1] 25)).cell? ⟨(w.heap.size), 0, none⟩ = some (.slice va V.length vc) := H19.out.c 0 rfl
  have xb1 : (u2.alloc (.cells #[.slice ua1 V1.length uc1, .slice fa1 M1.length fc1] 25)).cell? ⟨(w.heap.size), 1, none⟩ = some (.slice sa L.length sc) := H19.out.c 1 rfl
  have zb : (w.heap.size) < (u2.alloc (.cells #[.slice ua1 V1.length uc1, .slice fa1 M1.length fc1] 25)).heap.size := H19.out.2.2
  have xo0 : (u2.alloc (.cells #[.slice ua1 V1.length uc1, .slice fa1 M1.length fc1] 25)).cell? ⟨(w.heap.size + 1), 0, none⟩ = some (.int .i64 o.a) := H20.out.c 0 rfl
  have xo1 : (u2.alloc (.cells #[.slice ua1 V1.length uc1, .slice fa1 M1.length fc1] 25)).cell? ⟨(w.heap.size + 1), 1, none⟩ = some (.int .i64 o.b) := H20.out.c 1 rfl
  have xo2 : (u2.alloc (.cells #[.slice ua1 V1.length uc1, .slice fa1 M1.length fc1] 25)).cell? ⟨(w.heap.size + 1), 2, none⟩ = some (.int .i64 o.c) := H20.out.c 2 rfl
  have xo3 : (u2.alloc (.cells #[.slice ua1 V1.length uc1, .slice fa1 M1.length fc1] 25)).cell? ⟨(w.heap.size + 1), 3, none⟩ = some (.int .i64 o.d) := H20.out.c 3 rfl
  have zo : (w.heap.size + 1) < (u2.alloc (.cells #[.slice ua1 V1.length uc1, .slice fa1 M1.length fc1] 25)).heap.size := H20.out.2.2
  go_wp2_with fail
  refine (rsent_q o HE1x.out HV1x.out HM1x.out va vc sa sc _ H18.out HSL.out HSV.out).mono ?_
  rintro e u3 ⟨ua1r, uc1r, fa1r, fc1r, rfl, b3, hr⟩
  clear xb0 xb1 zb xo0 xo1 xo2 xo3 zo
  have H24 := Lib.hid (H18.out.step b3)
  clear H18
  have H25 := Lib.hid (H19.out.step b3)
  clear H19
  have H26 := Lib.hid (H20.out.step b3)
  clear H20
  have H27 := Lib.hid (H21.out.step b3)
  clear H21
  have H28 := Lib.hid (H23.out.step b3)
  clear H23
  have H29 := Lib.hid (keep2 b3 H22.out)
  clear H22
  clear b3
  have H30 := Lib.hid (hr)
  clear hr
  have H31 := Lib.hid (H24.out.step (al u3 (.cells #[.slice ua1r V1.length uc1r, .slice fa1r M1.length fc1r] 25)))
  clear H24
  have H32 := Lib.hid (H25.out.step (al u3 (.cells #[.slice ua1r V1.length uc1r, .slice fa1r M1.length fc1r] 25)))
  clear H25
  have H33 := Lib.hid (H26.out.step (al u3 (.cells #[.slice ua1r V1.length uc1r, .slice fa1r M1.length fc1r] 25)))
  clear H26
  have H34 := Lib.hid (H27.out.step (al u3 (.cells #[.slice ua1r V1.length uc1r, .slice fa1r M1.length fc1r] 25)))
  clear H27
  have H35 := Lib.hid (H28.out.step (al u3 (.cells #[.slice ua1r V1.length uc1r, .slice fa1r M1.length fc1r] 25)))
  clear H28
  have H36 := Lib.hid (H30.out.step (al u3 (.cells #[.slice ua1r V1.length uc1r, .slice fa1r M1.length fc1r] 25)))
  clear H30
  have H37 := Lib.hid (keep2 (al u3 (.cells #[.slice ua1r V1.length uc1r, .slice fa1r M1.length fc1r] 25)) H29.out)
  clear H29
  have H38 := Lib.hid (Cs.new u3 (u3.heap.size) #[.slice ua1r V1.length uc1r, .slice fa1r M1.length fc1r] 25 (by simp))
  have xb0 : (u3.alloc (.cells #[.slice ua1r V1.length uc1r, .slice fa1r M1.length fc1r] 25)).cell? ⟨(w.heap.size), 0, none⟩ = some (.slice va V.length vc) := H32.out.c 0 rfl
  have xb1 : (u3.alloc (.cells #[.slice ua1r V1.length uc1r, .slice fa1r M1.length fc1r] 25)).cell? ⟨(w.heap.size), 1, none⟩ = some (.slice sa L.length sc) := H32.out.c 1 rfl
  have zb : (w.heap.size) < (u3.alloc (.cells #[.slice ua1r V1.length uc1r, .slice fa1r M1.length fc1r] 25)).heap.size := H32.out.2.2
  go_wp2_with fail
  refine (confirmed_q q HE2x.out HV2x.out HM2x.out va vc sa sc _ H31.out HSL.out HSV.out).mono ?_
  rintro e u4 ⟨ua2, uc2, fa2, fc2, rfl, b4, hr⟩
  clear xb0 xb1 zb
  have H39 := Lib.hid (H31.out.step b4)
  clear H31
  have H40 := Lib.hid (H32.out.step b4)
  clear H32
  have H41 := Lib.hid (H33.out.step b4)
  clear H33
  have H42 := Lib.hid (H34.out.step b4)
  clear H34
  have H43 := Lib.hid (H35.out.step b4)
  clear H35
  have H44 := Lib.hid (H36.out.step b4)
  clear H36
  have H45 := Lib.hid (H38.out.step b4)
  clear H38
  have H46 := Lib.hid (keep2 b4 H37.out)
  clear H37
  clear b4
  have H47 := Lib.hid (hr)
  clear hr
  have H48 := Lib.hid (H39.out.step (al u4 (.cells #[.slice ua2 V2.length uc2, .slice fa2 M2.length fc2] 25)))
  clear H39
  have H49 := Lib.hid (H40.out.step (al u4 (.cells #[.slice ua2 V2.length uc2, .slice fa2 M2.length fc2] 25)))
  clear H40
  have H50 := Lib.hid (H41.out.step (al u4 (.cells #[.slice ua2 V2.length uc2, .slice fa2 M2.length fc2] 25)))
  clear H41
  have H51 := Lib.hid (H42.out.step (al u4 (.cells #[.slice ua2 V2.length uc2, .slice fa2 M2.length fc2] 25)))
  clear H42
  have H52 := Lib.hid (H43.out.step (al u4 (.cells #[.slice ua2 V2.length uc2, .slice fa2 M2.length fc2] 25)))
  clear H43
  have H53 := Lib.hid (H44.out.step (al u4 (.cells #[.slice ua2 V2.length uc2, .slice fa2 M2.length fc2] 25)))
  clear H44
  have H54 := Lib.hid (H45.out.step (al u4 (.cells #[.slice ua2 V2.length uc2, .slice fa2 M2.length fc2] 25)))
  clear H45
  have H55 := Lib.hid (H47.out.step (al u4 (.cells #[.slice ua2 V2.length uc2, .slice fa2 M2.length fc2] 25)))
  clear H47
  have H56 := Lib.hid (keep2 (al u4 (.cells #[.slice ua2 V2.length uc2, .slice fa2 M2.length fc2] 25)) H46.out)
  clear H46
  have H57 := Lib.hid (Cs.new u4 (u4.heap.size) #[.slice ua2 V2.length uc2, .slice fa2 M2.length fc2] 25 (by simp))
  have xb0 : (u4.alloc (.cells #[.slice ua2 V2.length uc2, .slice fa2 M2.length fc2] 25)).cell? ⟨(w.heap.size), 0, none⟩ = some (.slice va V.length vc) := H49.out.c 0 rfl
  have xb1 : (u4.alloc (.cells #[.slice ua2 V2.length uc2, .slice fa2 M2.length fc2] 25)).cell? ⟨(w.heap.size), 1, none⟩ = some (.slice sa L.length sc) := H49.out.c 1 rfl
  have zb : (w.heap.size) < (u4.alloc (.cells #[.slice ua2 V2.length uc2, .slice fa2 M2.length fc2] 25)).heap.size := H49.out.2.2
  go_wp2_with fail
  refine (rconfirmed_q q HE2x.out HV2x.out HM2x.out va vc sa sc _ H48.out HSL.out HSV.out).mono ?_
  rintro e u5 ⟨ua2r, uc2r, fa2r, fc2r, rfl, b5, hr⟩
  clear xb0 xb1 zb
  have H58 := Lib.hid (H48.out.step b5)
  clear H48
  have H59 := Lib.hid (H49.out.step b5)
  clear H49
  have H60 := Lib.hid (H50.out.step b5)
  clear H50
  have H61 := Lib.hid (H51.out.step b5)
  clear H51
  have H62 := Lib.hid (H52.out.step b5)
  clear H52
  have H63 := Lib.hid (H53.out.step b5)
  clear H53
  have H64 := Lib.hid (H54.out.step b5)
  clear H54
  have H65 := Lib.hid (H55.out.step b5)
  clear H55
  have H66 := Lib.hid (H57.out.step b5)
  clear H57
  have H67 := Lib.hid (keep2 b5 H56.out)
  clear H56
  clear b5
  have H68 := Lib.hid (hr)
  clear hr
  have H69 := Lib.hid (H58.out.step (al u5 (.cells #[.slice ua2r V2.length uc2r, .slice fa2r M2.length fc2r] 25)))
  clear H58
  have H70 := Lib.hid (H59.out.step (al u5 (.cells #[.slice ua2r V2.length uc2r, .slice fa2r M2.length fc2r] 25)))
  clear H59
  have H71 := Lib.hid (H60.out.step (al u5 (.cells #[.slice ua2r V2.length uc2r, .slice fa2r M2.length fc2r] 25)))
  clear H60
  have H72 := Lib.hid (H61.out.step (al u5 (.cells #[.slice ua2r V2.length uc2r, .slice fa2r M2.length fc2r] 25)))
  clear H61
  have H73 := Lib.hid (H62.out.step (al u5 (.cells #[.slice ua2r V2.length uc2r, .slice fa2r M2.length fc2r] 25)))
  clear H62
  have H74 := Lib.hid (H63.out.step (al u5 (.cells #[.slice ua2r V2.length uc2r, .slice fa2r M2.length fc2r] 25)))
  clear H63
  have H75 := Lib.hid (H64.out.step (al u5 (.cells #[.slice ua2r V2.length uc2r, .slice fa2r M2.length fc2r] 25)))
  clear H64
  have H76 := Lib.hid (H65.out.step (al u5 (.cells #[.slice ua2r V2.length uc2r, .slice fa2r M2.length fc2r] 25)))
  clear H65
  have H77 := Lib.hid (H66.out.step (al u5 (.cells #[.slice ua2r V2.length uc2r, .slice fa2r M2.length fc2r] 25)))
  clear H66
  have H78 := Lib.hid (H68.out.step (al u5 (.cells #[.slice ua2r V2.length uc2r, .slice fa2r M2.length fc2r] 25)))
  clear H68
  have H79 := Lib.hid (keep2 (al u5 (.cells #[.slice ua2r V2.length uc2r, .slice fa2r M2.length fc2r] 25)) H67.out)
  clear H67
  have H80 := Lib.hid (Cs.new u5 (u5.heap.size) #[.slice ua2r V2.length uc2r, .slice fa2r M2.length fc2r] 25 (by simp))
  have xb0 : (u5.alloc (.cells #[.slice ua2r V2.length uc2r, .slice fa2r M2.length fc2r] 25)).cell? ⟨(w.heap.size), 0, none⟩ = some (.slice va V.length vc) := H70.out.c 0 rfl
  have xb1 : (u5.alloc (.cells #[.slice ua2r V2.length uc2r, .slice fa2r M2.length fc2r] 25)).cell? ⟨(w.heap.size), 1, none⟩ = some (.slice sa L.length sc) := H70.out.c 1 rfl
  have zb : (w.heap.size) < (u5.alloc (.cells #[.slice ua2r V2.length uc2r, .slice fa2r M2.length fc2r] 25)).heap.size := H70.out.2.2
  go_wp2_with fail
  refine (reported_q x t HE3x.out HV3x.out HM3x.out va vc sa sc _ H69.out HSL.out HSV.out).mono ?_
  rintro e u6 ⟨ua3, uc3, fa3, fc3, rfl, b6, hr⟩
  clear xb0 xb1 zb
  have H81 := Lib.hid (H69.out.step b6)
  clear H69
  have H82 := Lib.hid (H70.out.step b6)
  clear H70
  have H83 := Lib.hid (H71.out.step b6)
  clear H71
  have H84 := Lib.hid (H72.out.step b6)
  clear H72
  have H85 := Lib.hid (H73.out.step b6)
  clear H73
  have H86 := Lib.hid (H74.out.step b6)
  clear H74
  have H87 := Lib.hid (H75.out.step b6)
  clear H75
  have H88 := Lib.hid (H76.out.step b6)
  clear H76
  have H89 := Lib.hid (H77.out.step b6)
  clear H77
  have H90 := Lib.hid (H78.out.step b6)
  clear H78
  have H91 := Lib.hid (H80.out.step b6)
  clear H80
  have H92 := Lib.hid (keep2 b6 H79.out)
  clear H79
  clear b6
  have H93 := Lib.hid (hr)
  clear hr
  have H94 := Lib.hid (H81.out.step (al u6 (.cells #[.slice ua3 V3.length uc3, .slice fa3 M3.length fc3] 25)))
  clear H81
  have H95 := Lib.hid (H82.out.step (al u6 (.cells #[.slice ua3 V3.length uc3, .slice fa3 M3.length fc3] 25)))
  clear H82
  have H96 := Lib.hid (H83.out.step (al u6 (.cells #[.slice ua3 V3.length uc3, .slice fa3 M3.length fc3] 25)))
  clear H83
  have H97 := Lib.hid (H84.out.step (al u6 (.cells #[.slice ua3 V3.length uc3, .slice fa3 M3.length fc3] 25)))
  clear H84
  have H98 := Lib.hid (H85.out.step (al u6 (.cells #[.slice ua3 V3.length uc3, .slice fa3 M3.length fc3] 25)))
  clear H85
  have H99 := Lib.hid (H86.out.step (al u6 (.cells #[.slice ua3 V3.length uc3, .slice fa3 M3.length fc3] 25)))
  clear H86
  have H100 := Lib.hid (H87.out.step (al u6 (.cells #[.slice ua3 V3.length uc3, .slice fa3 M3.length fc3] 25)))
  clear H87
  have H101 := Lib.hid (H88.out.step (al u6 (.cells #[.slice ua3 V3.length uc3, .slice fa3 M3.length fc3] 25)))
  clear H88
  have H102 := Lib.hid (H89.out.step (al u6 (.cells #[.slice ua3 V3.length uc3, .slice fa3 M3.length fc3] 25)))
  clear H89
  have H103 := Lib.hid (H90.out.step (al u6 (.cells #[.slice ua3 V3.length uc3, .slice fa3 M3.length fc3] 25)))
  clear H90
  have H104 := Lib.hid (H91.out.step (al u6 (.cells #[.slice ua3 V3.length uc3, .slice fa3 M3.length fc3] 25)))
  clear H91
  have H105 := Lib.hid (H93.out.step (al u6 (.cells #[.slice ua3 V3.length uc3, .slice fa3 M3.length fc3] 25)))
  clear H93
  have H106 := Lib.hid (keep2 (al u6 (.cells #[.slice ua3 V3.length uc3, .slice fa3 M3.length fc3] 25)) H92.out)
  clear H92
  have H107 := Lib.hid (Cs.new u6 (u6.heap.size) #[.slice ua3 V3.length uc3, .slice fa3 M3.length fc3] 25 (by simp))
  have xb0 : (u6.alloc (.cells #[.slice ua3 V3.length uc3, .slice fa3 M3.length fc3] 25)).cell? ⟨(w.heap.size), 0, none⟩ = some (.slice va V.length vc) := H95.out.c 0 rfl
  have xb1 : (u6.alloc (.cells #[.slice ua3 V3.length uc3, .slice fa3 M3.length fc3] 25)).cell? ⟨(w.heap.size), 1, none⟩ = some (.slice sa L.length sc) := H95.out.c 1 rfl
  have zb : (w.heap.size) < (u6.alloc (.cells #[.slice ua3 V3.length uc3, .slice fa3 M3.length fc3] 25)).heap.size := H95.out.2.2
  go_wp2_with fail
  refine (rreported_q x t HE3x.out HV3x.out HM3x.out va vc sa sc _ H94.out HSL.out HSV.out).mono ?_
  rintro e u7 ⟨ua3r, uc3r, fa3r, fc3r, rfl, b7, hr⟩
  clear xb0 xb1 zb
  have H108 := Lib.hid (H94.out.step b7)
  clear H94
  have H109 := Lib.hid (H95.out.step b7)
  clear H95
  have H110 := Lib.hid (H96.out.step b7)
  clear H96
  have H111 := Lib.hid (H97.out.step b7)
  clear H97
  have H112 := Lib.hid (H98.out.step b7)
  clear H98
  have H113 := Lib.hid (H99.out.step b7)
  clear H99
  have H114 := Lib.hid (H100.out.step b7)
  clear H100
  have H115 := Lib.hid (H101.out.step b7)
  clear H101
  have H116 := Lib.hid (H102.out.step b7)
  clear H102
  have H117 := Lib.hid (H103.out.step b7)
  clear H103
  have H118 := Lib.hid (H104.out.step b7)
  clear H104
  have H119 := Lib.hid (H105.out.step b7)
  clear H105
  have H120 := Lib.hid (H107.out.step b7)
  clear H107
  have H121 := Lib.hid (keep2 b7 H106.out)
  clear H106
  clear b7
  have H122 := Lib.hid (hr)
  clear hr
  have H123 := Lib.hid (H108.out.step (al u7 (.cells #[.slice ua3r V3.length uc3r, .slice fa3r M3.length fc3r] 25)))
  clear H108
  have H124 := Lib.hid (H109.out.step (al u7 (.cells #[.slice ua3r V3.length uc3r, .slice fa3r M3.length fc3r] 25)))
  clear H109
  have H125 := Lib.hid (H110.out.step (al u7 (.cells #[.slice ua3r V3.length uc3r, .slice fa3r M3.length fc3r] 25)))
  clear H110
  have H126 := Lib.hid (H111.out.step (al u7 (.cells #[.slice ua3r V3.length uc3r, .slice fa3r M3.length fc3r] 25)))
  clear H111
  have H127 := Lib.hid (H112.out.step (al u7 (.cells #[.slice ua3r V3.length uc3r, .slice fa3r M3.length fc3r] 25)))
  clear H112
  have H128 := Lib.hid (H113.out.step (al u7 (.cells #[.slice ua3r V3.length uc3r, .slice fa3r M3.length fc3r] 25)))
  clear H113
  have H129 := Lib.hid (H114.out.step (al u7 (.cells #[.slice ua3r V3.length uc3r, .slice fa3r M3.length fc3r] 25)))
  clear H114
  have H130 := Lib.hid (H115.out.step (al u7 (.cells #[.slice ua3r V3.length uc3r, .slice fa3r M3.length fc3r] 25)))
  clear H115
  have H131 := Lib.hid (H116.out.step (al u7 (.cells #[.slice ua3r V3.length uc3r, .slice fa3r M3.length fc3r] 25)))
  clear H116
  have H132 := Lib.hid (H117.out.step (al u7 (.cells #[.slice ua3r V3.length uc3r, .slice fa3r M3.length fc3r] 25)))
  clear H117
  have H133 := Lib.hid (H118.out.step (al u7 (.cells #[.slice ua3r V3.length uc3r, .slice fa3r M3.length fc3r] 25)))
  clear H118
  have H134 := Lib.hid (H119.out.step (al u7 (.cells #[.slice ua3r V3.length uc3r, .slice fa3r M3.length fc3r] 25)))
  clear H119
  have H135 := Lib.hid (H120.out.step (al u7 (.cells #[.slice ua3r V3.length uc3r, .slice fa3r M3.length fc3r] 25)))
  clear H120
  have H136 := Lib.hid (H122.out.step (al u7 (.cells #[.slice ua3r V3.length uc3r, .slice fa3r M3.length fc3r] 25)))
  clear H122
  have H137 := Lib.hid (keep2 (al u7 (.cells #[.slice ua3r V3.length uc3r, .slice fa3r M3.length fc3r] 25)) H121.out)
  clear H121
  have H138 := Lib.hid (Cs.new u7 (u7.heap.size) #[.slice ua3r V3.length uc3r, .slice fa3r M3.length fc3r] 25 (by simp))
  have xb0 : (u7.alloc (.cells #[.slice ua3r V3.length uc3r, .slice fa3r M3.length fc3r] 25)).cell? ⟨(w.heap.size), 0, none⟩ = some (.slice va V.length vc) := H124.out.c 0 rfl
  have xb1 : (u7.alloc (.cells #[.slice ua3r V3.length uc3r, .slice fa3r M3.length fc3r] 25)).cell? ⟨(w.heap.size), 1, none⟩ = some (.slice sa L.length sc) := H124.out.c 1 rfl
  have zb : (w.heap.size) < (u7.alloc (.cells #[.slice ua3r V3.length uc3r, .slice fa3r M3.length fc3r] 25)).heap.size := H124.out.2.2
  go_wp2_with fail
  refine (surely_q _ _ V mv mk HMVx.out HMKx.out _ H123.out.1 (by have := HSV.out; omega)).mono ?_
  rintro e u8 ⟨rfl, b8⟩
  clear xb0 xb1 zb
  have H139 := Lib.hid (H123.out.step b8)
  clear H123
  have H140 := Lib.hid (H124.out.step b8)
  clear H124
  have H141 := Lib.hid (H125.out.step b8)
  clear H125
  have H142 := Lib.hid (H126.out.step b8)
  clear H126
  have H143 := Lib.hid (H127.out.step b8)
  clear H127
  have H144 := Lib.hid (H128.out.step b8)
  clear H128
  have H145 := Lib.hid (H129.out.step b8)
  clear H129
  have H146 := Lib.hid (H130.out.step b8)
  clear H130
  have H147 := Lib.hid (H131.out.step b8)
  clear H131
  have H148 := Lib.hid (H132.out.step b8)
  clear H132
  have H149 := Lib.hid (H133.out.step b8)
  clear H133
  have H150 := Lib.hid (H134.out.step b8)
  clear H134
  have H151 := Lib.hid (H135.out.step b8)
  clear H135
  have H152 := Lib.hid (H136.out.step b8)
  clear H136
  have H153 := Lib.hid (H138.out.step b8)
  clear H138
  have H154 := Lib.hid (keep2 b8 H137.out)
  clear H137
  clear b8
  have xb0 : u8.cell? ⟨(w.heap.size), 0, none⟩ = some (.slice va V.length vc) := H140.out.c 0 rfl
  have xb1 : u8.cell? ⟨(w.heap.size), 1, none⟩ = some (.slice sa L.length sc) := H140.out.c 1 rfl
  have zb : (w.heap.size) < u8.heap.size := H140.out.2.2
  go_wp2_with fail
  refine (rsurely_q _ _ V mv mk HMVx.out HMKx.out _ H139.out.1 (by have := HSV.out; omega)).mono ?_
  rintro e u9 ⟨rfl, b9⟩
  clear xb0 xb1 zb
  have H155 := Lib.hid (H139.out.step b9)
  clear H139
  have H156 := Lib.hid (H140.out.step b9)
  clear H140
  have H157 := Lib.hid (H141.out.step b9)
  clear H141
  have H158 := Lib.hid (H142.out.step b9)
  clear H142
  have H159 := Lib.hid (H143.out.step b9)
  clear H143
  have H160 := Lib.hid (H144.out.step b9)
  clear H144
  have H161 := Lib.hid (H145.out.step b9)
  clear H145
  have H162 := Lib.hid (H146.out.step b9)
  clear H146
  have H163 := Lib.hid (H147.out.step b9)
  clear H147
  have H164 := Lib.hid (H148.out.step b9)
  clear H148
  have H165 := Lib.hid (H149.out.step b9)
  clear H149
  have H166 := Lib.hid (H150.out.step b9)
  clear H150
  have H167 := Lib.hid (H151.out.step b9)
  clear H151
  have H168 := Lib.hid (H152.out.step b9)
  clear H152
  have H169 := Lib.hid (H153.out.step b9)
  clear H153
  have H170 := Lib.hid (keep2 b9 H154.out)
  clear H154
  clear b9
  go_wp2_with fail
  obtain ⟨WA, hWA⟩ : ∃ z9, u9 = z9 := ⟨_, rfl⟩
  rw [hWA] at H155 H156 H157 H158 H159 H160 H161 H162 H163 H164 H165 H166 H167 H168 H169 H170 ⊢
  clear hWA
  obtain ⟨lit, hlit⟩ : ∃ lit : (Nat → Value) → Act, lit = fun vs => { tmps := List.toArray (Value.agg #[Value.slice va V.length vc, Value.slice sa L.length sc] :: Value.agg #[Value.int IntKind.i64 o.a, Value.int IntKind.i64 o.b, Value.int IntKind.i64 o.c, Value.int IntKind.i64 o.d] :: Value.int IntKind.i64 q :: Value.int IntKind.i64 x :: Value.int IntKind.i64 t :: Value.pointer (some { block := w.heap.size, off := 0 }) :: Value.pointer (some { block := w.heap.size + 1, off := 0 }) :: undef :: undef :: undef :: vs 57 :: Value.bool true :: Value.pointer (some { block := u2.heap.size, off := 0 }) :: Value.int IntKind.i64 er1 :: Value.pointer (some { block := u3.heap.size, off := 0 }) :: Value.int IntKind.i64 er1 :: Value.pointer (some { block := u4.heap.size, off := 0 }) :: Value.int IntKind.i64 er2 :: Value.pointer (some { block := u5.heap.size, off := 0 }) :: Value.int IntKind.i64 er2 :: Value.pointer (some { block := u6.heap.size, off := 0 }) :: Value.int IntKind.i64 er3 :: Value.pointer (some { block := u7.heap.size, off := 0 }) :: Value.int IntKind.i64 er3 :: Value.int IntKind.i64 mv :: Value.bool mk :: Value.int IntKind.i64 mv :: Value.bool mk :: Value.bool true :: Value.pointer (some { block := w.heap.size, off := 1 }) :: Value.slice sa L.length sc :: Value.int IntKind.i64 (L.length : Int) :: Value.bool false :: Value.bool false :: Value.pointer (some { block := w.heap.size, off := 0 }) :: Value.slice va V.length vc :: Value.int IntKind.i64 (V.length : Int) :: Value.bool false :: Value.bool false :: undef :: Value.tuple #[Value.agg #[Value.slice ua1 V1.length uc1, Value.slice fa1 M1.length fc1], Value.int IntKind.i64 er1] :: Value.agg #[Value.slice va V.length vc, Value.slice sa L.length sc] :: Value.agg #[Value.int IntKind.i64 o.a, Value.int IntKind.i64 o.b, Value.int IntKind.i64 o.c, Value.int IntKind.i64 o.d] :: Value.tuple #[Value.agg #[Value.slice ua1 V1.length uc1, Value.slice fa1 M1.length fc1], Value.int IntKind.i64 er1] :: Value.agg #[Value.slice ua1 V1.length uc1, Value.slice fa1 M1.length fc1] :: Value.int IntKind.i64 er1 :: Value.tuple #[Value.agg #[Value.slice ua1r V1.length uc1r, Value.slice fa1r M1.length fc1r], Value.int IntKind.i64 er1] :: Value.agg #[Value.slice va V.length vc, Value.slice sa L.length sc] :: Value.agg #[Value.int IntKind.i64 o.a, Value.int IntKind.i64 o.b, Value.int IntKind.i64 o.c, Value.int IntKind.i64 o.d] :: Value.tuple #[Value.agg #[Value.slice ua1r V1.length uc1r, Value.slice fa1r M1.length fc1r], Value.int IntKind.i64 er1] :: Value.agg #[Value.slice ua1r V1.length uc1r, Value.slice fa1r M1.length fc1r] :: Value.int IntKind.i64 er1 :: Value.tuple #[Value.agg #[Value.slice ua2 V2.length uc2, Value.slice fa2 M2.length fc2], Value.int IntKind.i64 er2] :: Value.agg #[Value.slice va V.length vc, Value.slice sa L.length sc] :: Value.int IntKind.i64 q :: Value.tuple #[Value.agg #[Value.slice ua2 V2.length uc2, Value.slice fa2 M2.length fc2], Value.int IntKind.i64 er2] :: Value.agg #[Value.slice ua2 V2.length uc2, Value.slice fa2 M2.length fc2] :: Value.int IntKind.i64 er2 :: Value.tuple #[Value.agg #[Value.slice ua2r V2.length uc2r, Value.slice fa2r M2.length fc2r], Value.int IntKind.i64 er2] :: Value.agg #[Value.slice va V.length vc, Value.slice sa L.length sc] :: Value.int IntKind.i64 q :: Value.tuple #[Value.agg #[Value.slice ua2r V2.length uc2r, Value.slice fa2r M2.length fc2r], Value.int IntKind.i64 er2] :: Value.agg #[Value.slice ua2r V2.length uc2r, Value.slice fa2r M2.length fc2r] :: Value.int IntKind.i64 er2 :: Value.tuple #[Value.agg #[Value.slice ua3 V3.length uc3, Value.slice fa3 M3.length fc3], Value.int IntKind.i64 er3] :: Value.agg #[Value.slice va V.length vc, Value.slice sa L.length sc] :: Value.int IntKind.i64 x :: Value.int IntKind.i64 t :: Value.tuple #[Value.agg #[Value.slice ua3 V3.length uc3, Value.slice fa3 M3.length fc3], Value.int IntKind.i64 er3] :: Value.agg #[Value.slice ua3 V3.length uc3, Value.slice fa3 M3.length fc3] :: Value.int IntKind.i64 er3 :: Value.tuple #[Value.agg #[Value.slice ua3r V3.length uc3r, Value.slice fa3r M3.length fc3r], Value.int IntKind.i64 er3] :: Value.agg #[Value.slice va V.length vc, Value.slice sa L.length sc] :: Value.int IntKind.i64 x :: Value.int IntKind.i64 t :: Value.tuple #[Value.agg #[Value.slice ua3r V3.length uc3r, Value.slice fa3r M3.length fc3r], Value.int IntKind.i64 er3] :: Value.agg #[Value.slice ua3r V3.length uc3r, Value.slice fa3r M3.length fc3r] :: Value.int IntKind.i64 er3 :: Value.tuple #[Value.int IntKind.i64 mv, Value.bool mk] :: Value.agg #[Value.slice va V.length vc, Value.slice sa L.length sc] :: Value.tuple #[Value.int IntKind.i64 mv, Value.bool mk] :: Value.int IntKind.i64 mv :: Value.bool mk :: Value.tuple #[Value.int IntKind.i64 mv, Value.bool mk] :: Value.agg #[Value.slice va V.length vc, Value.slice sa L.length sc] :: Value.tuple #[Value.int IntKind.i64 mv, Value.bool mk] :: Value.int IntKind.i64 mv :: Value.bool mk :: vs 0 :: vs 1 :: vs 2 :: vs 3 :: vs 4 :: vs 5 :: vs 6 :: vs 7 :: vs 8 :: vs 9 :: vs 10 :: vs 11 :: vs 12 :: vs 13 :: vs 14 :: vs 15 :: vs 16 :: vs 17 :: vs 18 :: vs 19 :: vs 20 :: vs 21 :: vs 22 :: vs 23 :: vs 24 :: vs 25 :: vs 26 :: vs 27 :: vs 28 :: vs 29 :: vs 30 :: vs 31 :: vs 32 :: vs 33 :: vs 34 :: vs 35 :: vs 36 :: vs 37 :: vs 38 :: vs 39 :: vs 40 :: vs 41 :: vs 42 :: vs 43 :: vs 44 :: vs 45 :: vs 46 :: vs 47 :: vs 48 :: vs 49 :: vs 50 :: vs 51 :: vs 52 :: vs 53 :: vs 54 :: vs 55 :: vs 56 :: []), defers := [] } := ⟨_, rfl⟩
  have HLIT := Lib.hid hlit
  clear hlit
  obtain ⟨val, hval⟩ : ∃ val : List Value, val = [.bool true, .bool true, .int .i64 er1, .int .i64 er1, .bool true, .bool true, .bool true, .agg #[.slice ua1 V1.length uc1, .slice fa1 M1.length fc1], .agg #[.slice ua1r V1.length uc1r, .slice fa1r M1.length fc1r], .bool true, .bool true, .bool true, .int .i64 er2, .int .i64 er2, .bool true, .bool true, .bool true, .agg #[.slice ua2 V2.length uc2, .slice fa2 M2.length fc2], .agg #[.slice ua2r V2.length uc2r, .slice fa2r M2.length fc2r], .bool true, .bool true, .bool true, .int .i64 er3, .int .i64 er3, .bool true, .bool true, .bool true, .agg #[.slice ua3 V3.length uc3, .slice fa3 M3.length fc3], .agg #[.slice ua3r V3.length uc3r, .slice fa3r M3.length fc3r], .bool true, .bool true, .bool true, .int .i64 mv, .int .i64 mv, .bool true, .bool true, .bool true, .bool mk, .bool mk, .bool true, .bool true, .bool true, .agg #[.slice va V.length vc, .slice sa L.length sc], .int .i64 x, .bool c, .agg #[.slice va V.length vc, .slice sa L.length sc], .int .i64 x, .bool c, .bool true, .bool true, .bool true, .int .i64 x, undef, .int .i64 x, undef, .bool true, .bool true, .bool true] := ⟨_, rfl⟩
  have E0 := Lib.hid (show val.getD 0 undef = .bool true by rw [hval]; rfl)
  have E1 := Lib.hid (show val.getD 1 undef = .bool true by rw [hval]; rfl)
  have E2 := Lib.hid (show val.getD 2 undef = .int .i64 er1 by rw [hval]; rfl)
  have E3 := Lib.hid (show val.getD 3 undef = .int .i64 er1 by rw [hval]; rfl)
  have E4 := Lib.hid (show val.getD 4 undef = .bool true by rw [hval]; rfl)
  have E5 := Lib.hid (show val.getD 5 undef = .bool true by rw [hval]; rfl)
  have E6 := Lib.hid (show val.getD 6 undef = .bool true by rw [hval]; rfl)
  have E7 := Lib.hid (show val.getD 7 undef = .agg #[.slice ua1 V1.length uc1, .slice fa1 M1.length fc1] by rw [hval]; rfl)
  have E8 := Lib.hid (show val.getD 8 undef = .agg #[.slice ua1r V1.length uc1r, .slice fa1r M1.length fc1r] by rw [hval]; rfl)
  have E9 := Lib.hid (show val.getD 9 undef = .bool true by rw [hval]; rfl)
  have E10 := Lib.hid (show val.getD 10 undef = .bool true by rw [hval]; rfl)
  have E11 := Lib.hid (show val.getD 11 undef = .bool true by rw [hval]; rfl)
  have E12 := Lib.hid (show val.getD 12 undef = .int .i64 er2 by rw [hval]; rfl)
  have E13 := Lib.hid (show val.getD 13 undef = .int .i64 er2 by rw [hval]; rfl)
  have E14 := Lib.hid (show val.getD 14 undef = .bool true by rw [hval]; rfl)
  have E15 := Lib.hid (show val.getD 15 undef = .bool true by rw [hval]; rfl)
  have E16 := Lib.hid (show val.getD 16 undef = .bool true by rw [hval]; rfl)
  have E17 := Lib.hid (show val.getD 17 undef = .agg #[.slice ua2 V2.length uc2, .slice fa2 M2.length fc2] by rw [hval]; rfl)
  have E18 := Lib.hid (show val.getD 18 undef = .agg #[.slice ua2r V2.length uc2r, .slice fa2r M2.length fc2r] by rw [hval]; rfl)
  have E19 := Lib.hid (show val.getD 19 undef = .bool true by rw [hval]; rfl)
  have E20 := Lib.hid (show val.getD 20 undef = .bool true by rw [hval]; rfl)
  have E21 := Lib.hid (show val.getD 21 undef = .bool true by rw [hval]; rfl)
  have E22 := Lib.hid (show val.getD 22 undef = .int .i64 er3 by rw [hval]; rfl)
  have E23 := Lib.hid (show val.getD 23 undef = .int .i64 er3 by rw [hval]; rfl)
  have E24 := Lib.hid (show val.getD 24 undef = .bool true by rw [hval]; rfl)
  have E25 := Lib.hid (show val.getD 25 undef = .bool true by rw [hval]; rfl)
  have E26 := Lib.hid (show val.getD 26 undef = .bool true by rw [hval]; rfl)
  have E27 := Lib.hid (show val.getD 27 undef = .agg #[.slice ua3 V3.length uc3, .slice fa3 M3.length fc3] by rw [hval]; rfl)
  have E28 := Lib.hid (show val.getD 28 undef = .agg #[.slice ua3r V3.length uc3r, .slice fa3r M3.length fc3r] by rw [hval]; rfl)
  have E29 := Lib.hid (show val.getD 29 undef = .bool true by rw [hval]; rfl)
  have E30 := Lib.hid (show val.getD 30 undef = .bool true by rw [hval]; rfl)
  have E31 := Lib.hid (show val.getD 31 undef = .bool true by rw [hval]; rfl)
  have E32 := Lib.hid (show val.getD 32 undef = .int .i64 mv by rw [hval]; rfl)
  have E33 := Lib.hid (show val.getD 33 undef = .int .i64 mv by rw [hval]; rfl)
  have E34 := Lib.hid (show val.getD 34 undef = .bool true by rw [hval]; rfl)
  have E35 := Lib.hid (show val.getD 35 undef = .bool true by rw [hval]; rfl)
  have E36 := Lib.hid (show val.getD 36 undef = .bool true by rw [hval]; rfl)
  have E37 := Lib.hid (show val.getD 37 undef = .bool mk by rw [hval]; rfl)
  have E38 := Lib.hid (show val.getD 38 undef = .bool mk by rw [hval]; rfl)
  have E39 := Lib.hid (show val.getD 39 undef = .bool true by rw [hval]; rfl)
  have E40 := Lib.hid (show val.getD 40 undef = .bool true by rw [hval]; rfl)
  have E41 := Lib.hid (show val.getD 41 undef = .bool true by rw [hval]; rfl)
  have E42 := Lib.hid (show val.getD 42 undef = .agg #[.slice va V.length vc, .slice sa L.length sc] by rw [hval]; rfl)
  have E43 := Lib.hid (show val.getD 43 undef = .int .i64 x by rw [hval]; rfl)
  have E44 := Lib.hid (show val.getD 44 undef = .bool c by rw [hval]; rfl)
  have E45 := Lib.hid (show val.getD 45 undef = .agg #[.slice va V.length vc, .slice sa L.length sc] by rw [hval]; rfl)
  have E46 := Lib.hid (show val.getD 46 undef = .int .i64 x by rw [hval]; rfl)
  have E47 := Lib.hid (show val.getD 47 undef = .bool c by rw [hval]; rfl)
  have E48 := Lib.hid (show val.getD 48 undef = .bool true by rw [hval]; rfl)
  have E49 := Lib.hid (show val.getD 49 undef = .bool true by rw [hval]; rfl)
  have E50 := Lib.hid (show val.getD 50 undef = .bool true by rw [hval]; rfl)
  have E51 := Lib.hid (show val.getD 51 undef = .int .i64 x by rw [hval]; rfl)
  have E53 := Lib.hid (show val.getD 53 undef = .int .i64 x by rw [hval]; rfl)
  have E55 := Lib.hid (show val.getD 55 undef = .bool true by rw [hval]; rfl)
  have E56 := Lib.hid (show val.getD 56 undef = .bool true by rw [hval]; rfl)
  have E57 := Lib.hid (show val.getD 57 undef = .bool true by rw [hval]; rfl)
  clear hval
  obtain ⟨G, hG0⟩ : ∃ G : Nat → Value → World → Prop, G = (fun i v w => (i = 52 → KnQ x v w) ∧ (i = 54 → KnQ x v w) ∧ (i ≠ 52 → i ≠ 54 → v = val.getD i undef)) := ⟨_, rfl⟩
  have HG := Lib.hid hG0
  clear hG0
  refine region_inv (RS lit WA G) (by kernel_rfl) (by decide +kernel) ?_ ?_ ?_
  · exact ⟨fun i => ([undef, undef, undef, undef, undef, undef, undef, undef, undef, undef, undef, undef, undef, undef, undef, undef, undef, undef, undef, undef, undef, undef, undef, undef, undef, undef, undef, undef, undef, undef, undef, undef, undef, undef, undef, undef, undef, undef, undef, undef, undef, undef, undef, undef, undef, undef, undef, undef, undef, undef, undef, undef, undef, undef, undef, undef, undef, Value.bool false] : List Value).getD i undef, (by rw [HLIT.out]; rfl), below_drew _ _, fun i h => by cases h⟩
  · refine ⟨?_, ?_, ?_, ?_, ?_, ?_, ?_, ?_, ?_, ?_, ?_, ?_, ?_, ?_, ?_, ?_, ?_, ?_, ?_, ?_, ?_, ?_, ?_, ?_, ?_, ?_, ?_, ?_, ?_, ?_, ?_, ?_, ?_, ?_, ?_, ?_, ?_, ?_, ?_, ?_, ?_, ?_, ?_, ?_, ?_, ?_, ?_, ?_, ?_, ?_, ?_, ?_, ?_, ?_, ?_, ?_, ?_, ?_, trivial⟩
    · intro bf ac wv hfb haf hJ K' hK
      obtain ⟨vs, rfl, hM, j4⟩ := hJ
      replace hK := Lib.hid hK
      replace hM := Lib.hid hM
      rw [HG.out] at j4
      replace j4 := Lib.hid j4
      clear haf hfb
      rw [HLIT.out]
      go_simp
      exact hK.out _ _ (RS.next (wv := wv) (vs := vs) 0 (x := .bool true) (by rw [HLIT.out]; rfl) (by rw [HG.out]; exact j4.out) hM.out (by rw [HG.out]; exact fun _ _ h => h) (by rw [HG.out]; exact ⟨fun h => absurd h (by decide), fun h => absurd h (by decide), fun _ _ => E0.out.symm⟩))
    · intro bf ac wv hfb haf hJ K' hK
      obtain ⟨vs, rfl, hM, j4⟩ := hJ
      replace hK := Lib.hid hK
      replace hM := Lib.hid hM
      rw [HG.out] at j4
      simp [Region.binds] at haf
      have e0 := ((j4 0 (by simp [haf])).2.2 (by decide) (by decide)).trans E0.out
      replace j4 := Lib.hid j4
      clear haf hfb
      rw [HLIT.out]
      go_simp
      exact hK.out _ _ (RS.next (wv := wv) (vs := vs) 1 (x := .bool true) (by rw [HLIT.out]; simp only [upv, e0, Nat.reduceBEq, cond_true, cond_false]) (by rw [HG.out]; exact j4.out) hM.out (by rw [HG.out]; exact fun _ _ h => h) (by rw [HG.out]; exact ⟨fun h => absurd h (by decide), fun h => absurd h (by decide), fun _ _ => E1.out.symm⟩))
    · intro bf ac wv hfb haf hJ K' hK
      obtain ⟨vs, rfl, hM, j4⟩ := hJ
      replace hK := Lib.hid hK
      replace hM := Lib.hid hM
      rw [HG.out] at j4
      simp [Region.binds] at haf
      have e1 := ((j4 1 (by simp [haf])).2.2 (by decide) (by decide)).trans E1.out
      replace j4 := Lib.hid j4
      clear haf hfb
      rw [HLIT.out]
      go_simp
      exact hK.out _ _ (RS.next (wv := wv) (vs := vs) 2 (x := .int .i64 er1) (by rw [HLIT.out]; simp only [upv, e1, Nat.reduceBEq, cond_true, cond_false]) (by rw [HG.out]; exact j4.out) hM.out (by rw [HG.out]; exact fun _ _ h => h) (by rw [HG.out]; exact ⟨fun h => absurd h (by decide), fun h => absurd h (by decide), fun _ _ => E2.out.symm⟩))
    · intro bf ac wv hfb haf hJ K' hK
      obtain ⟨vs, rfl, hM, j4⟩ := hJ
      replace hK := Lib.hid hK
      replace hM := Lib.hid hM
      rw [HG.out] at j4
      simp [Region.binds] at haf
      have e1 := ((j4 1 (by simp [haf])).2.2 (by decide) (by decide)).trans E1.out
      replace j4 := Lib.hid j4
      clear haf hfb
      rw [HLIT.out]
      go_simp
      exact hK.out _ _ (RS.next (wv := wv) (vs := vs) 3 (x := .int .i64 er1) (by rw [HLIT.out]; simp only [upv, e1, Nat.reduceBEq, cond_true, cond_false]) (by rw [HG.out]; exact j4.out) hM.out (by rw [HG.out]; exact fun _ _ h => h) (by rw [HG.out]; exact ⟨fun h => absurd h (by decide), fun h => absurd h (by decide), fun _ _ => E3.out.symm⟩))
    · intro bf ac wv hfb haf hJ K' hK
      obtain ⟨vs, rfl, hM, j4⟩ := hJ
      replace hK := Lib.hid hK
      replace hM := Lib.hid hM
      rw [HG.out] at j4
      simp [Region.binds] at haf
      have e1 := ((j4 1 (by simp [haf])).2.2 (by decide) (by decide)).trans E1.out
      have e2 := ((j4 2 (by simp [haf])).2.2 (by decide) (by decide)).trans E2.out
      have e3 := ((j4 3 (by simp [haf])).2.2 (by decide) (by decide)).trans E3.out
      replace j4 := Lib.hid j4
      clear haf hfb
      rw [HLIT.out]
      go_simp
      exact hK.out _ _ (RS.next (wv := wv) (vs := vs) 4 (x := .bool true) (by rw [HLIT.out]; simp only [upv, e1, e2, e3, Nat.reduceBEq, cond_true, cond_false]) (by rw [HG.out]; exact j4.out) hM.out (by rw [HG.out]; exact fun _ _ h => h) (by rw [HG.out]; exact ⟨fun h => absurd h (by decide), fun h => absurd h (by decide), fun _ _ => E4.out.symm⟩))
    · intro bf ac wv hfb haf hJ K' hK
      obtain ⟨vs, rfl, hM, j4⟩ := hJ
      replace hK := Lib.hid hK
      replace hM := Lib.hid hM
      rw [HG.out] at j4
      simp [Region.binds] at haf
      have e1 := ((j4 1 (by simp [haf])).2.2 (by decide) (by decide)).trans E1.out
      have e4 := ((j4 4 (by simp [haf])).2.2 (by decide) (by decide)).trans E4.out
      replace j4 := Lib.hid j4
      clear haf hfb
      rw [HLIT.out]
      go_simp
      exact hK.out _ _ (RS.next (wv := wv) (vs := vs) 5 (x := .bool true) (by rw [HLIT.out]; simp only [upv, e1, e4, Nat.reduceBEq, cond_true, cond_false]) (by rw [HG.out]; exact j4.out) hM.out (by rw [HG.out]; exact fun _ _ h => h) (by rw [HG.out]; exact ⟨fun h => absurd h (by decide), fun h => absurd h (by decide), fun _ _ => E5.out.symm⟩))
    · intro bf ac wv hfb haf hJ K' hK
      obtain ⟨vs, rfl, hM, j4⟩ := hJ
      replace hK := Lib.hid hK
      replace hM := Lib.hid hM
      rw [HG.out] at j4
      simp [Region.binds] at haf
      have e5 := ((j4 5 (by simp [haf])).2.2 (by decide) (by decide)).trans E5.out
      replace j4 := Lib.hid j4
      clear haf hfb
      rw [HLIT.out]
      go_simp
      exact hK.out _ _ (RS.next (wv := wv) (vs := vs) 6 (x := .bool true) (by rw [HLIT.out]; simp only [upv, e5, Nat.reduceBEq, cond_true, cond_false]) (by rw [HG.out]; exact j4.out) hM.out (by rw [HG.out]; exact fun _ _ h => h) (by rw [HG.out]; exact ⟨fun h => absurd h (by decide), fun h => absurd h (by decide), fun _ _ => E6.out.symm⟩))
    · intro bf ac wv hfb haf hJ K' hK
      obtain ⟨vs, rfl, hM, j4⟩ := hJ
      replace hK := Lib.hid hK
      replace hM := Lib.hid hM
      rw [HG.out] at j4
      simp [Region.binds] at haf
      have e6 := ((j4 6 (by simp [haf])).2.2 (by decide) (by decide)).trans E6.out
      replace j4 := Lib.hid j4
      clear haf hfb
      have x0 := (H159.out.step hM.out).c 0 rfl
      have x1 := (H159.out.step hM.out).c 1 rfl
      have xz := (H159.out.step hM.out).2.2
      rw [HLIT.out]
      go_simp
      exact hK.out _ _ (RS.next (wv := wv) (vs := vs) 7 (x := .agg #[.slice ua1 V1.length uc1, .slice fa1 M1.length fc1]) (by rw [HLIT.out]; simp only [upv, e6, Nat.reduceBEq, cond_true, cond_false]) (by rw [HG.out]; exact j4.out) hM.out (by rw [HG.out]; exact fun _ _ h => h) (by rw [HG.out]; exact ⟨fun h => absurd h (by decide), fun h => absurd h (by decide), fun _ _ => E7.out.symm⟩))
    · intro bf ac wv hfb haf hJ K' hK
      obtain ⟨vs, rfl, hM, j4⟩ := hJ
      replace hK := Lib.hid hK
      replace hM := Lib.hid hM
      rw [HG.out] at j4
      simp [Region.binds] at haf
      have e6 := ((j4 6 (by simp [haf])).2.2 (by decide) (by decide)).trans E6.out
      replace j4 := Lib.hid j4
      clear haf hfb
      have x0 := (H161.out.step hM.out).c 0 rfl
      have x1 := (H161.out.step hM.out).c 1 rfl
      have xz := (H161.out.step hM.out).2.2
      rw [HLIT.out]
      go_simp
      exact hK.out _ _ (RS.next (wv := wv) (vs := vs) 8 (x := .agg #[.slice ua1r V1.length uc1r, .slice fa1r M1.length fc1r]) (by rw [HLIT.out]; simp only [upv, e6, Nat.reduceBEq, cond_true, cond_false]) (by rw [HG.out]; exact j4.out) hM.out (by rw [HG.out]; exact fun _ _ h => h) (by rw [HG.out]; exact ⟨fun h => absurd h (by decide), fun h => absurd h (by decide), fun _ _ => E8.out.symm⟩))
    · intro bf ac wv hfb haf hJ K' hK
      obtain ⟨vs, rfl, hM, j4⟩ := hJ
      replace hK := Lib.hid hK
      replace hM := Lib.hid hM
      rw [HG.out] at j4
      simp [Region.binds] at haf
      have e6 := ((j4 6 (by simp [haf])).2.2 (by decide) (by decide)).trans E6.out
      have e7 := ((j4 7 (by simp [haf])).2.2 (by decide) (by decide)).trans E7.out
      have e8 := ((j4 8 (by simp [haf])).2.2 (by decide) (by decide)).trans E8.out
      replace j4 := Lib.hid j4
      clear haf hfb
      rw [HLIT.out]
      go_simp
      go_at_call 19
      refine (same_any V1 M1 ua1 uc1 fa1 fc1 ua1r uc1r fa1r fc1r _ (H158.out.step hM.out) (H160.out.step hM.out) HL1x.out).mono ?_
      rintro e w4 ⟨rfl, b4⟩
      exact hK.out _ _ (RS.next (wv := wv) (vs := vs) 9 (x := .bool true) (by rw [HLIT.out]; simp only [upv, e6, e7, e8, Nat.reduceBEq, cond_true, cond_false]) (by rw [HG.out]; exact j4.out) (keep2 b4 hM.out) (by rw [HG.out]; exact fun k v h => ⟨fun q9 => (h.1 q9).step b4, fun q9 => (h.2.1 q9).step b4, h.2.2⟩) (by rw [HG.out]; exact ⟨fun h => absurd h (by decide), fun h => absurd h (by decide), fun _ _ => E9.out.symm⟩))
    · intro bf ac wv hfb haf hJ K' hK
      obtain ⟨vs, rfl, hM, j4⟩ := hJ
      replace hK := Lib.hid hK
      replace hM := Lib.hid hM
      rw [HG.out] at j4
      simp [Region.binds] at haf
      have e6 := ((j4 6 (by simp [haf])).2.2 (by decide) (by decide)).trans E6.out
      have e9 := ((j4 9 (by simp [haf])).2.2 (by decide) (by decide)).trans E9.out
      replace j4 := Lib.hid j4
      clear haf hfb
      rw [HLIT.out]
      go_simp
      exact hK.out _ _ (RS.next (wv := wv) (vs := vs) 10 (x := .bool true) (by rw [HLIT.out]; simp only [upv, e6, e9, Nat.reduceBEq, cond_true, cond_false]) (by rw [HG.out]; exact j4.out) hM.out (by rw [HG.out]; exact fun _ _ h => h) (by rw [HG.out]; exact ⟨fun h => absurd h (by decide), fun h => absurd h (by decide), fun _ _ => E10.out.symm⟩))
    · intro bf ac wv hfb haf hJ K' hK
      obtain ⟨vs, rfl, hM, j4⟩ := hJ
      replace hK := Lib.hid hK
      replace hM := Lib.hid hM
      rw [HG.out] at j4
      simp [Region.binds] at haf
      have e10 := ((j4 10 (by simp [haf])).2.2 (by decide) (by decide)).trans E10.out
      replace j4 := Lib.hid j4
      clear haf hfb
      rw [HLIT.out]
      go_simp
      exact hK.out _ _ (RS.next (wv := wv) (vs := vs) 11 (x := .bool true) (by rw [HLIT.out]; simp only [upv, e10, Nat.reduceBEq, cond_true, cond_false]) (by rw [HG.out]; exact j4.out) hM.out (by rw [HG.out]; exact fun _ _ h => h) (by rw [HG.out]; exact ⟨fun h => absurd h (by decide), fun h => absurd h (by decide), fun _ _ => E11.out.symm⟩))
    · intro bf ac wv hfb haf hJ K' hK
      obtain ⟨vs, rfl, hM, j4⟩ := hJ
      replace hK := Lib.hid hK
      replace hM := Lib.hid hM
      rw [HG.out] at j4
      simp [Region.binds] at haf
      have e11 := ((j4 11 (by simp [haf])).2.2 (by decide) (by decide)).trans E11.out
      replace j4 := Lib.hid j4
      clear haf hfb
      rw [HLIT.out]
      go_simp
      exact hK.out _ _ (RS.next (wv := wv) (vs := vs) 12 (x := .int .i64 er2) (by rw [HLIT.out]; simp only [upv, e11, Nat.reduceBEq, cond_true, cond_false]) (by rw [HG.out]; exact j4.out) hM.out (by rw [HG.out]; exact fun _ _ h => h) (by rw [HG.out]; exact ⟨fun h => absurd h (by decide), fun h => absurd h (by decide), fun _ _ => E12.out.symm⟩))
    · intro bf ac wv hfb haf hJ K' hK
      obtain ⟨vs, rfl, hM, j4⟩ := hJ
      replace hK := Lib.hid hK
      replace hM := Lib.hid hM
      rw [HG.out] at j4
      simp [Region.binds] at haf
      have e11 := ((j4 11 (by simp [haf])).2.2 (by decide) (by decide)).trans E11.out
      replace j4 := Lib.hid j4
      clear haf hfb
      rw [HLIT.out]
      go_simp
      exact hK.out _ _ (RS.next (wv := wv) (vs := vs) 13 (x := .int .i64 er2) (by rw [HLIT.out]; simp only [upv, e11, Nat.reduceBEq, cond_true, cond_false]) (by rw [HG.out]; exact j4.out) hM.out (by rw [HG.out]; exact fun _ _ h => h) (by rw [HG.out]; exact ⟨fun h => absurd h (by decide), fun h => absurd h (by decide), fun _ _ => E13.out.symm⟩))
    · intro bf ac wv hfb haf hJ K' hK
      obtain ⟨vs, rfl, hM, j4⟩ := hJ
      replace hK := Lib.hid hK
      replace hM := Lib.hid hM
      rw [HG.out] at j4
      simp [Region.binds] at haf
      have e11 := ((j4 11 (by simp [haf])).2.2 (by decide) (by decide)).trans E11.out
      have e12 := ((j4 12 (by simp [haf])).2.2 (by decide) (by decide)).trans E12.out
      have e13 := ((j4 13 (by simp [haf])).2.2 (by decide) (by decide)).trans E13.out
      replace j4 := Lib.hid j4
      clear haf hfb
      rw [HLIT.out]
      go_simp
      exact hK.out _ _ (RS.next (wv := wv) (vs := vs) 14 (x := .bool true) (by rw [HLIT.out]; simp only [upv, e11, e12, e13, Nat.reduceBEq, cond_true, cond_false]) (by rw [HG.out]; exact j4.out) hM.out (by rw [HG.out]; exact fun _ _ h => h) (by rw [HG.out]; exact ⟨fun h => absurd h (by decide), fun h => absurd h (by decide), fun _ _ => E14.out.symm⟩))
    · intro bf ac wv hfb haf hJ K' hK
      obtain ⟨vs, rfl, hM, j4⟩ := hJ
      replace hK := Lib.hid hK
      replace hM := Lib.hid hM
      rw [HG.out] at j4
      simp [Region.binds] at haf
      have e11 := ((j4 11 (by simp [haf])).2.2 (by decide) (by decide)).trans E11.out
      have e14 := ((j4 14 (by simp [haf])).2.2 (by decide) (by decide)).trans E14.out
      replace j4 := Lib.hid j4
      clear haf hfb
      rw [HLIT.out]
      go_simp
      exact hK.out _ _ (RS.next (wv := wv) (vs := vs) 15 (x := .bool true) (by rw [HLIT.out]; simp only [upv, e11, e14, Nat.reduceBEq, cond_true, cond_false]) (by rw [HG.out]; exact j4.out) hM.out (by rw [HG.out]; exact fun _ _ h => h) (by rw [HG.out]; exact ⟨fun h => absurd h (by decide), fun h => absurd h (by decide), fun _ _ => E15.out.symm⟩))
    · intro bf ac wv hfb haf hJ K' hK
      obtain ⟨vs, rfl, hM, j4⟩ := hJ
      replace hK := Lib.hid hK
      replace hM := Lib.hid hM
      rw [HG.out] at j4
      simp [Region.binds] at haf
      have e15 := ((j4 15 (by simp [haf])).2.2 (by decide) (by decide)).trans E15.out
      replace j4 := Lib.hid j4
      clear haf hfb
      rw [HLIT.out]
      go_simp
      exact hK.out _ _ (RS.next (wv := wv) (vs := vs) 16 (x := .bool true) (by rw [HLIT.out]; simp only [upv, e15, Nat.reduceBEq, cond_true, cond_false]) (by rw [HG.out]; exact j4.out) hM.out (by rw [HG.out]; exact fun _ _ h => h) (by rw [HG.out]; exact ⟨fun h => absurd h (by decide), fun h => absurd h (by decide), fun _ _ => E16.out.symm⟩))
    · intro bf ac wv hfb haf hJ K' hK
      obtain ⟨vs, rfl, hM, j4⟩ := hJ
      replace hK := Lib.hid hK
      replace hM := Lib.hid hM
      rw [HG.out] at j4
      simp [Region.binds] at haf
      have e16 := ((j4 16 (by simp [haf])).2.2 (by decide) (by decide)).trans E16.out
      replace j4 := Lib.hid j4
      clear haf hfb
      have x0 := (H163.out.step hM.out).c 0 rfl
      have x1 := (H163.out.step hM.out).c 1 rfl
      have xz := (H163.out.step hM.out).2.2
      rw [HLIT.out]
      go_simp
      exact hK.out _ _ (RS.next (wv := wv) (vs := vs) 17 (x := .agg #[.slice ua2 V2.length uc2, .slice fa2 M2.length fc2]) (by rw [HLIT.out]; simp only [upv, e16, Nat.reduceBEq, cond_true, cond_false]) (by rw [HG.out]; exact j4.out) hM.out (by rw [HG.out]; exact fun _ _ h => h) (by rw [HG.out]; exact ⟨fun h => absurd h (by decide), fun h => absurd h (by decide), fun _ _ => E17.out.symm⟩))
    · intro bf ac wv hfb haf hJ K' hK
      obtain ⟨vs, rfl, hM, j4⟩ := hJ
      replace hK := Lib.hid hK
      replace hM := Lib.hid hM
      rw [HG.out] at j4
      simp [Region.binds] at haf
      have e16 := ((j4 16 (by simp [haf])).2.2 (by decide) (by decide)).trans E16.out
      replace j4 := Lib.hid j4
      clear haf hfb
      have x0 := (H165.out.step hM.out).c 0 rfl
      have x1 := (H165.out.step hM.out).c 1 rfl
      have xz := (H165.out.step hM.out).2.2
      rw [HLIT.out]
      go_simp
      exact hK.out _ _ (RS.next (wv := wv) (vs := vs) 18 (x := .agg #[.slice ua2r V2.length uc2r, .slice fa2r M2.length fc2r]) (by rw [HLIT.out]; simp only [upv, e16, Nat.reduceBEq, cond_true, cond_false]) (by rw [HG.out]; exact j4.out) hM.out (by rw [HG.out]; exact fun _ _ h => h) (by rw [HG.out]; exact ⟨fun h => absurd h (by decide), fun h => absurd h (by decide), fun _ _ => E18.out.symm⟩))
    · intro bf ac wv hfb haf hJ K' hK
      obtain ⟨vs, rfl, hM, j4⟩ := hJ
      replace hK := Lib.hid hK
      replace hM := Lib.hid hM
      rw [HG.out] at j4
      simp [Region.binds] at haf
      have e16 := ((j4 16 (by simp [haf])).2.2 (by decide) (by decide)).trans E16.out
      have e17 := ((j4 17 (by simp [haf])).2.2 (by decide) (by decide)).trans E17.out
      have e18 := ((j4 18 (by simp [haf])).2.2 (by decide) (by decide)).trans E18.out
      replace j4 := Lib.hid j4
      clear haf hfb
      rw [HLIT.out]
      go_simp
      go_at_call 19
      refine (same_any V2 M2 ua2 uc2 fa2 fc2 ua2r uc2r fa2r fc2r _ (H162.out.step hM.out) (H164.out.step hM.out) HL2x.out).mono ?_
      rintro e w4 ⟨rfl, b4⟩
      exact hK.out _ _ (RS.next (wv := wv) (vs := vs) 19 (x := .bool true) (by rw [HLIT.out]; simp only [upv, e16, e17, e18, Nat.reduceBEq, cond_true, cond_false]) (by rw [HG.out]; exact j4.out) (keep2 b4 hM.out) (by rw [HG.out]; exact fun k v h => ⟨fun q9 => (h.1 q9).step b4, fun q9 => (h.2.1 q9).step b4, h.2.2⟩) (by rw [HG.out]; exact ⟨fun h => absurd h (by decide), fun h => absurd h (by decide), fun _ _ => E19.out.symm⟩))
    · intro bf ac wv hfb haf hJ K' hK
      obtain ⟨vs, rfl, hM, j4⟩ := hJ
      replace hK := Lib.hid hK
      replace hM := Lib.hid hM
      rw [HG.out] at j4
      simp [Region.binds] at haf
      have e16 := ((j4 16 (by simp [haf])).2.2 (by decide) (by decide)).trans E16.out
      have e19 := ((j4 19 (by simp [haf])).2.2 (by decide) (by decide)).trans E19.out
      replace j4 := Lib.hid j4
      clear haf hfb
      rw [HLIT.out]
      go_simp
      exact hK.out _ _ (RS.next (wv := wv) (vs := vs) 20 (x := .bool true) (by rw [HLIT.out]; simp only [upv, e16, e19, Nat.reduceBEq, cond_true, cond_false]) (by rw [HG.out]; exact j4.out) hM.out (by rw [HG.out]; exact fun _ _ h => h) (by rw [HG.out]; exact ⟨fun h => absurd h (by decide), fun h => absurd h (by decide), fun _ _ => E20.out.symm⟩))
    · intro bf ac wv hfb haf hJ K' hK
      obtain ⟨vs, rfl, hM, j4⟩ := hJ
      replace hK := Lib.hid hK
      replace hM := Lib.hid hM
      rw [HG.out] at j4
      simp [Region.binds] at haf
      have e20 := ((j4 20 (by simp [haf])).2.2 (by decide) (by decide)).trans E20.out
      replace j4 := Lib.hid j4
      clear haf hfb
      rw [HLIT.out]
      go_simp
      exact hK.out _ _ (RS.next (wv := wv) (vs := vs) 21 (x := .bool true) (by rw [HLIT.out]; simp only [upv, e20, Nat.reduceBEq, cond_true, cond_false]) (by rw [HG.out]; exact j4.out) hM.out (by rw [HG.out]; exact fun _ _ h => h) (by rw [HG.out]; exact ⟨fun h => absurd h (by decide), fun h => absurd h (by decide), fun _ _ => E21.out.symm⟩))
    · intro bf ac wv hfb haf hJ K' hK
      obtain ⟨vs, rfl, hM, j4⟩ := hJ
      replace hK := Lib.hid hK
      replace hM := Lib.hid hM
      rw [HG.out] at j4
      simp [Region.binds] at haf
      have e21 := ((j4 21 (by simp [haf])).2.2 (by decide) (by decide)).trans E21.out
      replace j4 := Lib.hid j4
      clear haf hfb
      rw [HLIT.out]
      go_simp
      exact hK.out _ _ (RS.next (wv := wv) (vs := vs) 22 (x := .int .i64 er3) (by rw [HLIT.out]; simp only [upv, e21, Nat.reduceBEq, cond_true, cond_false]) (by rw [HG.out]; exact j4.out) hM.out (by rw [HG.out]; exact fun _ _ h => h) (by rw [HG.out]; exact ⟨fun h => absurd h (by decide), fun h => absurd h (by decide), fun _ _ => E22.out.symm⟩))
    · intro bf ac wv hfb haf hJ K' hK
      obtain ⟨vs, rfl, hM, j4⟩ := hJ
      replace hK := Lib.hid hK
      replace hM := Lib.hid hM
      rw [HG.out] at j4
      simp [Region.binds] at haf
      have e21 := ((j4 21 (by simp [haf])).2.2 (by decide) (by decide)).trans E21.out
      replace j4 := Lib.hid j4
      clear haf hfb
      rw [HLIT.out]
      go_simp
      exact hK.out _ _ (RS.next (wv := wv) (vs := vs) 23 (x := .int .i64 er3) (by rw [HLIT.out]; simp only [upv, e21, Nat.reduceBEq, cond_true, cond_false]) (by rw [HG.out]; exact j4.out) hM.out (by rw [HG.out]; exact fun _ _ h => h) (by rw [HG.out]; exact ⟨fun h => absurd h (by decide), fun h => absurd h (by decide), fun _ _ => E23.out.symm⟩))
    · intro bf ac wv hfb haf hJ K' hK
      obtain ⟨vs, rfl, hM, j4⟩ := hJ
      replace hK := Lib.hid hK
      replace hM := Lib.hid hM
      rw [HG.out] at j4
      simp [Region.binds] at haf
      have e21 := ((j4 21 (by simp [haf])).2.2 (by decide) (by decide)).trans E21.out
      have e22 := ((j4 22 (by simp [haf])).2.2 (by decide) (by decide)).trans E22.out
      have e23 := ((j4 23 (by simp [haf])).2.2 (by decide) (by decide)).trans E23.out
      replace j4 := Lib.hid j4
      clear haf hfb
      rw [HLIT.out]
      go_simp
      exact hK.out _ _ (RS.next (wv := wv) (vs := vs) 24 (x := .bool true) (by rw [HLIT.out]; simp only [upv, e21, e22, e23, Nat.reduceBEq, cond_true, cond_false]) (by rw [HG.out]; exact j4.out) hM.out (by rw [HG.out]; exact fun _ _ h => h) (by rw [HG.out]; exact ⟨fun h => absurd h (by decide), fun h => absurd h (by decide), fun _ _ => E24.out.symm⟩))
    · intro bf ac wv hfb haf hJ K' hK
      obtain ⟨vs, rfl, hM, j4⟩ := hJ
      replace hK := Lib.hid hK
      replace hM := Lib.hid hM
      rw [HG.out] at j4
      simp [Region.binds] at haf
      have e21 := ((j4 21 (by simp [haf])).2.2 (by decide) (by decide)).trans E21.out
      have e24 := ((j4 24 (by simp [haf])).2.2 (by decide) (by decide)).trans E24.out
      replace j4 := Lib.hid j4
      clear haf hfb
      rw [HLIT.out]
      go_simp
      exact hK.out _ _ (RS.next (wv := wv) (vs := vs) 25 (x := .bool true) (by rw [HLIT.out]; simp only [upv, e21, e24, Nat.reduceBEq, cond_true, cond_false]) (by rw [HG.out]; exact j4.out) hM.out (by rw [HG.out]; exact fun _ _ h => h) (by rw [HG.out]; exact ⟨fun h => absurd h (by decide), fun h => absurd h (by decide), fun _ _ => E25.out.symm⟩))
    · intro bf ac wv hfb haf hJ K' hK
      obtain ⟨vs, rfl, hM, j4⟩ := hJ
      replace hK := Lib.hid hK
      replace hM := Lib.hid hM
      rw [HG.out] at j4
      simp [Region.binds] at haf
      have e25 := ((j4 25 (by simp [haf])).2.2 (by decide) (by decide)).trans E25.out
      replace j4 := Lib.hid j4
      clear haf hfb
      rw [HLIT.out]
      go_simp
      exact hK.out _ _ (RS.next (wv := wv) (vs := vs) 26 (x := .bool true) (by rw [HLIT.out]; simp only [upv, e25, Nat.reduceBEq, cond_true, cond_false]) (by rw [HG.out]; exact j4.out) hM.out (by rw [HG.out]; exact fun _ _ h => h) (by rw [HG.out]; exact ⟨fun h => absurd h (by decide), fun h => absurd h (by decide), fun _ _ => E26.out.symm⟩))
    · intro bf ac wv hfb haf hJ K' hK
      obtain ⟨vs, rfl, hM, j4⟩ := hJ
      replace hK := Lib.hid hK
      replace hM := Lib.hid hM
      rw [HG.out] at j4
      simp [Region.binds] at haf
      have e26 := ((j4 26 (by simp [haf])).2.2 (by decide) (by decide)).trans E26.out
      replace j4 := Lib.hid j4
      clear haf hfb
      have x0 := (H167.out.step hM.out).c 0 rfl
      have x1 := (H167.out.step hM.out).c 1 rfl
      have xz := (H167.out.step hM.out).2.2
      rw [HLIT.out]
      go_simp
      exact hK.out _ _ (RS.next (wv := wv) (vs := vs) 27 (x := .agg #[.slice ua3 V3.length uc3, .slice fa3 M3.length fc3]) (by rw [HLIT.out]; simp only [upv, e26, Nat.reduceBEq, cond_true, cond_false]) (by rw [HG.out]; exact j4.out) hM.out (by rw [HG.out]; exact fun _ _ h => h) (by rw [HG.out]; exact ⟨fun h => absurd h (by decide), fun h => absurd h (by decide), fun _ _ => E27.out.symm⟩))
    · intro bf ac wv hfb haf hJ K' hK
      obtain ⟨vs, rfl, hM, j4⟩ := hJ
      replace hK := Lib.hid hK
      replace hM := Lib.hid hM
      rw [HG.out] at j4
      simp [Region.binds] at haf
      have e26 := ((j4 26 (by simp [haf])).2.2 (by decide) (by decide)).trans E26.out
      replace j4 := Lib.hid j4
      clear haf hfb
      have x0 := (H169.out.step hM.out).c 0 rfl
      have x1 := (H169.out.step hM.out).c 1 rfl
      have xz := (H169.out.step hM.out).2.2
      rw [HLIT.out]
      go_simp
      exact hK.out _ _ (RS.next (wv := wv) (vs := vs) 28 (x := .agg #[.slice ua3r V3.length uc3r, .slice fa3r M3.length fc3r]) (by rw [HLIT.out]; simp only [upv, e26, Nat.reduceBEq, cond_true, cond_false]) (by rw [HG.out]; exact j4.out) hM.out (by rw [HG.out]; exact fun _ _ h => h) (by rw [HG.out]; exact ⟨fun h => absurd h (by decide), fun h => absurd h (by decide), fun _ _ => E28.out.symm⟩))
    · intro bf ac wv hfb haf hJ K' hK
      obtain ⟨vs, rfl, hM, j4⟩ := hJ
      replace hK := Lib.hid hK
      replace hM := Lib.hid hM
      rw [HG.out] at j4
      simp [Region.binds] at haf
      have e26 := ((j4 26 (by simp [haf])).2.2 (by decide) (by decide)).trans E26.out
      have e27 := ((j4 27 (by simp [haf])).2.2 (by decide) (by decide)).trans E27.out
      have e28 := ((j4 28 (by simp [haf])).2.2 (by decide) (by decide)).trans E28.out
      replace j4 := Lib.hid j4
      clear haf hfb
      rw [HLIT.out]
      go_simp
      go_at_call 19
      refine (same_any V3 M3 ua3 uc3 fa3 fc3 ua3r uc3r fa3r fc3r _ (H166.out.step hM.out) (H168.out.step hM.out) HL3x.out).mono ?_
      rintro e w4 ⟨rfl, b4⟩
      exact hK.out _ _ (RS.next (wv := wv) (vs := vs) 29 (x := .bool true) (by rw [HLIT.out]; simp only [upv, e26, e27, e28, Nat.reduceBEq, cond_true, cond_false]) (by rw [HG.out]; exact j4.out) (keep2 b4 hM.out) (by rw [HG.out]; exact fun k v h => ⟨fun q9 => (h.1 q9).step b4, fun q9 => (h.2.1 q9).step b4, h.2.2⟩) (by rw [HG.out]; exact ⟨fun h => absurd h (by decide), fun h => absurd h (by decide), fun _ _ => E29.out.symm⟩))
    · intro bf ac wv hfb haf hJ K' hK
      obtain ⟨vs, rfl, hM, j4⟩ := hJ
      replace hK := Lib.hid hK
      replace hM := Lib.hid hM
      rw [HG.out] at j4
      simp [Region.binds] at haf
      have e26 := ((j4 26 (by simp [haf])).2.2 (by decide) (by decide)).trans E26.out
      have e29 := ((j4 29 (by simp [haf])).2.2 (by decide) (by decide)).trans E29.out
      replace j4 := Lib.hid j4
      clear haf hfb
      rw [HLIT.out]
      go_simp
      exact hK.out _ _ (RS.next (wv := wv) (vs := vs) 30 (x := .bool true) (by rw [HLIT.out]; simp only [upv, e26, e29, Nat.reduceBEq, cond_true, cond_false]) (by rw [HG.out]; exact j4.out) hM.out (by rw [HG.out]; exact fun _ _ h => h) (by rw [HG.out]; exact ⟨fun h => absurd h (by decide), fun h => absurd h (by decide), fun _ _ => E30.out.symm⟩))
    · intro bf ac wv hfb haf hJ K' hK
      obtain ⟨vs, rfl, hM, j4⟩ := hJ
      replace hK := Lib.hid hK
      replace hM := Lib.hid hM
      rw [HG.out] at j4
      simp [Region.binds] at haf
      have e30 := ((j4 30 (by simp [haf])).2.2 (by decide) (by decide)).trans E30.out
      replace j4 := Lib.hid j4
      clear haf hfb
      rw [HLIT.out]
      go_simp
      exact hK.out _ _ (RS.next (wv := wv) (vs := vs) 31 (x := .bool true) (by rw [HLIT.out]; simp only [upv, e30, Nat.reduceBEq, cond_true, cond_false]) (by rw [HG.out]; exact j4.out) hM.out (by rw [HG.out]; exact fun _ _ h => h) (by rw [HG.out]; exact ⟨fun h => absurd h (by decide), fun h => absurd h (by decide), fun _ _ => E31.out.symm⟩))
    · intro bf ac wv hfb haf hJ K' hK
      obtain ⟨vs, rfl, hM, j4⟩ := hJ
      replace hK := Lib.hid hK
      replace hM := Lib.hid hM
      rw [HG.out] at j4
      simp [Region.binds] at haf
      have e31 := ((j4 31 (by simp [haf])).2.2 (by decide) (by decide)).trans E31.out
      replace j4 := Lib.hid j4
      clear haf hfb
      rw [HLIT.out]
      go_simp
      exact hK.out _ _ (RS.next (wv := wv) (vs := vs) 32 (x := .int .i64 mv) (by rw [HLIT.out]; simp only [upv, e31, Nat.reduceBEq, cond_true, cond_false]) (by rw [HG.out]; exact j4.out) hM.out (by rw [HG.out]; exact fun _ _ h => h) (by rw [HG.out]; exact ⟨fun h => absurd h (by decide), fun h => absurd h (by decide), fun _ _ => E32.out.symm⟩))
    · intro bf ac wv hfb haf hJ K' hK
      obtain ⟨vs, rfl, hM, j4⟩ := hJ
      replace hK := Lib.hid hK
      replace hM := Lib.hid hM
      rw [HG.out] at j4
      simp [Region.binds] at haf
      have e31 := ((j4 31 (by simp [haf])).2.2 (by decide) (by decide)).trans E31.out
      replace j4 := Lib.hid j4
      clear haf hfb
      rw [HLIT.out]
      go_simp
      exact hK.out _ _ (RS.next (wv := wv) (vs := vs) 33 (x := .int .i64 mv) (by rw [HLIT.out]; simp only [upv, e31, Nat.reduceBEq, cond_true, cond_false]) (by rw [HG.out]; exact j4.out) hM.out (by rw [HG.out]; exact fun _ _ h => h) (by rw [HG.out]; exact ⟨fun h => absurd h (by decide), fun h => absurd h (by decide), fun _ _ => E33.out.symm⟩))
    · intro bf ac wv hfb haf hJ K' hK
      obtain ⟨vs, rfl, hM, j4⟩ := hJ
      replace hK := Lib.hid hK
      replace hM := Lib.hid hM
      rw [HG.out] at j4
      simp [Region.binds] at haf
      have e31 := ((j4 31 (by simp [haf])).2.2 (by decide) (by decide)).trans E31.out
      have e32 := ((j4 32 (by simp [haf])).2.2 (by decide) (by decide)).trans E32.out
      have e33 := ((j4 33 (by simp [haf])).2.2 (by decide) (by decide)).trans E33.out
      replace j4 := Lib.hid j4
      clear haf hfb
      rw [HLIT.out]
      go_simp
      exact hK.out _ _ (RS.next (wv := wv) (vs := vs) 34 (x := .bool true) (by rw [HLIT.out]; simp only [upv, e31, e32, e33, Nat.reduceBEq, cond_true, cond_false]) (by rw [HG.out]; exact j4.out) hM.out (by rw [HG.out]; exact fun _ _ h => h) (by rw [HG.out]; exact ⟨fun h => absurd h (by decide), fun h => absurd h (by decide), fun _ _ => E34.out.symm⟩))
    · intro bf ac wv hfb haf hJ K' hK
      obtain ⟨vs, rfl, hM, j4⟩ := hJ
      replace hK := Lib.hid hK
      replace hM := Lib.hid hM
      rw [HG.out] at j4
      simp [Region.binds] at haf
      have e31 := ((j4 31 (by simp [haf])).2.2 (by decide) (by decide)).trans E31.out
      have e34 := ((j4 34 (by simp [haf])).2.2 (by decide) (by decide)).trans E34.out
      replace j4 := Lib.hid j4
      clear haf hfb
      rw [HLIT.out]
      go_simp
      exact hK.out _ _ (RS.next (wv := wv) (vs := vs) 35 (x := .bool true) (by rw [HLIT.out]; simp only [upv, e31, e34, Nat.reduceBEq, cond_true, cond_false]) (by rw [HG.out]; exact j4.out) hM.out (by rw [HG.out]; exact fun _ _ h => h) (by rw [HG.out]; exact ⟨fun h => absurd h (by decide), fun h => absurd h (by decide), fun _ _ => E35.out.symm⟩))
    · intro bf ac wv hfb haf hJ K' hK
      obtain ⟨vs, rfl, hM, j4⟩ := hJ
      replace hK := Lib.hid hK
      replace hM := Lib.hid hM
      rw [HG.out] at j4
      simp [Region.binds] at haf
      have e35 := ((j4 35 (by simp [haf])).2.2 (by decide) (by decide)).trans E35.out
      replace j4 := Lib.hid j4
      clear haf hfb
      rw [HLIT.out]
      go_simp
      exact hK.out _ _ (RS.next (wv := wv) (vs := vs) 36 (x := .bool true) (by rw [HLIT.out]; simp only [upv, e35, Nat.reduceBEq, cond_true, cond_false]) (by rw [HG.out]; exact j4.out) hM.out (by rw [HG.out]; exact fun _ _ h => h) (by rw [HG.out]; exact ⟨fun h => absurd h (by decide), fun h => absurd h (by decide), fun _ _ => E36.out.symm⟩))
    · intro bf ac wv hfb haf hJ K' hK
      obtain ⟨vs, rfl, hM, j4⟩ := hJ
      replace hK := Lib.hid hK
      replace hM := Lib.hid hM
      rw [HG.out] at j4
      simp [Region.binds] at haf
      have e36 := ((j4 36 (by simp [haf])).2.2 (by decide) (by decide)).trans E36.out
      replace j4 := Lib.hid j4
      clear haf hfb
      rw [HLIT.out]
      go_simp
      exact hK.out _ _ (RS.next (wv := wv) (vs := vs) 37 (x := .bool mk) (by rw [HLIT.out]; simp only [upv, e36, Nat.reduceBEq, cond_true, cond_false]) (by rw [HG.out]; exact j4.out) hM.out (by rw [HG.out]; exact fun _ _ h => h) (by rw [HG.out]; exact ⟨fun h => absurd h (by decide), fun h => absurd h (by decide), fun _ _ => E37.out.symm⟩))
    · intro bf ac wv hfb haf hJ K' hK
      obtain ⟨vs, rfl, hM, j4⟩ := hJ
      replace hK := Lib.hid hK
      replace hM := Lib.hid hM
      rw [HG.out] at j4
      simp [Region.binds] at haf
      have e36 := ((j4 36 (by simp [haf])).2.2 (by decide) (by decide)).trans E36.out
      replace j4 := Lib.hid j4
      clear haf hfb
      rw [HLIT.out]
      go_simp
      exact hK.out _ _ (RS.next (wv := wv) (vs := vs) 38 (x := .bool mk) (by rw [HLIT.out]; simp only [upv, e36, Nat.reduceBEq, cond_true, cond_false]) (by rw [HG.out]; exact j4.out) hM.out (by rw [HG.out]; exact fun _ _ h => h) (by rw [HG.out]; exact ⟨fun h => absurd h (by decide), fun h => absurd h (by decide), fun _ _ => E38.out.symm⟩))
    · intro bf ac wv hfb haf hJ K' hK
      obtain ⟨vs, rfl, hM, j4⟩ := hJ
      replace hK := Lib.hid hK
      replace hM := Lib.hid hM
      rw [HG.out] at j4
      simp [Region.binds] at haf
      have e36 := ((j4 36 (by simp [haf])).2.2 (by decide) (by decide)).trans E36.out
      have e37 := ((j4 37 (by simp [haf])).2.2 (by decide) (by decide)).trans E37.out
      have e38 := ((j4 38 (by simp [haf])).2.2 (by decide) (by decide)).trans E38.out
      replace j4 := Lib.hid j4
      clear haf hfb
      rw [HLIT.out]
      go_simp
      exact hK.out _ _ (RS.next (wv := wv) (vs := vs) 39 (x := .bool true) (by rw [HLIT.out]; simp only [upv, e36, e37, e38, Nat.reduceBEq, cond_true, cond_false]) (by rw [HG.out]; exact j4.out) hM.out (by rw [HG.out]; exact fun _ _ h => h) (by rw [HG.out]; exact ⟨fun h => absurd h (by decide), fun h => absurd h (by decide), fun _ _ => E39.out.symm⟩))
    · intro bf ac wv hfb haf hJ K' hK
      obtain ⟨vs, rfl, hM, j4⟩ := hJ
      replace hK := Lib.hid hK
      replace hM := Lib.hid hM
      rw [HG.out] at j4
      simp [Region.binds] at haf
      have e36 := ((j4 36 (by simp [haf])).2.2 (by decide) (by decide)).trans E36.out
      have e39 := ((j4 39 (by simp [haf])).2.2 (by decide) (by decide)).trans E39.out
      replace j4 := Lib.hid j4
      clear haf hfb
      rw [HLIT.out]
      go_simp
      exact hK.out _ _ (RS.next (wv := wv) (vs := vs) 40 (x := .bool true) (by rw [HLIT.out]; simp only [upv, e36, e39, Nat.reduceBEq, cond_true, cond_false]) (by rw [HG.out]; exact j4.out) hM.out (by rw [HG.out]; exact fun _ _ h => h) (by rw [HG.out]; exact ⟨fun h => absurd h (by decide), fun h => absurd h (by decide), fun _ _ => E40.out.symm⟩))
    · intro bf ac wv hfb haf hJ K' hK
      obtain ⟨vs, rfl, hM, j4⟩ := hJ
      replace hK := Lib.hid hK
      replace hM := Lib.hid hM
      rw [HG.out] at j4
      simp [Region.binds] at haf
      have e40 := ((j4 40 (by simp [haf])).2.2 (by decide) (by decide)).trans E40.out
      replace j4 := Lib.hid j4
      clear haf hfb
      rw [HLIT.out]
      go_simp
      exact hK.out _ _ (RS.next (wv := wv) (vs := vs) 41 (x := .bool true) (by rw [HLIT.out]; simp only [upv, e40, Nat.reduceBEq, cond_true, cond_false]) (by rw [HG.out]; exact j4.out) hM.out (by rw [HG.out]; exact fun _ _ h => h) (by rw [HG.out]; exact ⟨fun h => absurd h (by decide), fun h => absurd h (by decide), fun _ _ => E41.out.symm⟩))
    · intro bf ac wv hfb haf hJ K' hK
      obtain ⟨vs, rfl, hM, j4⟩ := hJ
      replace hK := Lib.hid hK
      replace hM := Lib.hid hM
      rw [HG.out] at j4
      simp [Region.binds] at haf
      have e41 := ((j4 41 (by simp [haf])).2.2 (by decide) (by decide)).trans E41.out
      replace j4 := Lib.hid j4
      clear haf hfb
      have x0 := (H156.out.step hM.out).c 0 rfl
      have x1 := (H156.out.step hM.out).c 1 rfl
      have xz := (H156.out.step hM.out).2.2
      rw [HLIT.out]
      go_simp
      exact hK.out _ _ (RS.next (wv := wv) (vs := vs) 42 (x := .agg #[.slice va V.length vc, .slice sa L.length sc]) (by rw [HLIT.out]; simp only [upv, e41, Nat.reduceBEq, cond_true, cond_false]) (by rw [HG.out]; exact j4.out) hM.out (by rw [HG.out]; exact fun _ _ h => h) (by rw [HG.out]; exact ⟨fun h => absurd h (by decide), fun h => absurd h (by decide), fun _ _ => E42.out.symm⟩))
    · intro bf ac wv hfb haf hJ K' hK
      obtain ⟨vs, rfl, hM, j4⟩ := hJ
      replace hK := Lib.hid hK
      replace hM := Lib.hid hM
      rw [HG.out] at j4
      simp [Region.binds] at haf
      have e41 := ((j4 41 (by simp [haf])).2.2 (by decide) (by decide)).trans E41.out
      replace j4 := Lib.hid j4
      clear haf hfb
      rw [HLIT.out]
      go_simp
      exact hK.out _ _ (RS.next (wv := wv) (vs := vs) 43 (x := .int .i64 x) (by rw [HLIT.out]; simp only [upv, e41, Nat.reduceBEq, cond_true, cond_false]) (by rw [HG.out]; exact j4.out) hM.out (by rw [HG.out]; exact fun _ _ h => h) (by rw [HG.out]; exact ⟨fun h => absurd h (by decide), fun h => absurd h (by decide), fun _ _ => E43.out.symm⟩))
    · intro bf ac wv hfb haf hJ K' hK
      obtain ⟨vs, rfl, hM, j4⟩ := hJ
      replace hK := Lib.hid hK
      replace hM := Lib.hid hM
      rw [HG.out] at j4
      simp [Region.binds] at haf
      have e41 := ((j4 41 (by simp [haf])).2.2 (by decide) (by decide)).trans E41.out
      have e42 := ((j4 42 (by simp [haf])).2.2 (by decide) (by decide)).trans E42.out
      have e43 := ((j4 43 (by simp [haf])).2.2 (by decide) (by decide)).trans E43.out
      replace j4 := Lib.hid j4
      clear haf hfb
      rw [HLIT.out]
      go_simp
      go_at_call 20
      refine (can_q _ _ V x c HCx.out _ (H155.out.1.step hM.out) HSV.out).mono ?_
      rintro e w4 ⟨rfl, b4⟩
      exact hK.out _ _ (RS.next (wv := wv) (vs := vs) 44 (x := .bool c) (by rw [HLIT.out]; simp only [upv, e41, e42, e43, Nat.reduceBEq, cond_true, cond_false]) (by rw [HG.out]; exact j4.out) (keep2 b4 hM.out) (by rw [HG.out]; exact fun k v h => ⟨fun q9 => (h.1 q9).step b4, fun q9 => (h.2.1 q9).step b4, h.2.2⟩) (by rw [HG.out]; exact ⟨fun h => absurd h (by decide), fun h => absurd h (by decide), fun _ _ => E44.out.symm⟩))
    · intro bf ac wv hfb haf hJ K' hK
      obtain ⟨vs, rfl, hM, j4⟩ := hJ
      replace hK := Lib.hid hK
      replace hM := Lib.hid hM
      rw [HG.out] at j4
      simp [Region.binds] at haf
      have e41 := ((j4 41 (by simp [haf])).2.2 (by decide) (by decide)).trans E41.out
      replace j4 := Lib.hid j4
      clear haf hfb
      have x0 := (H156.out.step hM.out).c 0 rfl
      have x1 := (H156.out.step hM.out).c 1 rfl
      have xz := (H156.out.step hM.out).2.2
      rw [HLIT.out]
      go_simp
      exact hK.out _ _ (RS.next (wv := wv) (vs := vs) 45 (x := .agg #[.slice va V.length vc, .slice sa L.length sc]) (by rw [HLIT.out]; simp only [upv, e41, Nat.reduceBEq, cond_true, cond_false]) (by rw [HG.out]; exact j4.out) hM.out (by rw [HG.out]; exact fun _ _ h => h) (by rw [HG.out]; exact ⟨fun h => absurd h (by decide), fun h => absurd h (by decide), fun _ _ => E45.out.symm⟩))
    · intro bf ac wv hfb haf hJ K' hK
      obtain ⟨vs, rfl, hM, j4⟩ := hJ
      replace hK := Lib.hid hK
      replace hM := Lib.hid hM
      rw [HG.out] at j4
      simp [Region.binds] at haf
      have e41 := ((j4 41 (by simp [haf])).2.2 (by decide) (by decide)).trans E41.out
      replace j4 := Lib.hid j4
      clear haf hfb
      rw [HLIT.out]
      go_simp
      exact hK.out _ _ (RS.next (wv := wv) (vs := vs) 46 (x := .int .i64 x) (by rw [HLIT.out]; simp only [upv, e41, Nat.reduceBEq, cond_true, cond_false]) (by rw [HG.out]; exact j4.out) hM.out (by rw [HG.out]; exact fun _ _ h => h) (by rw [HG.out]; exact ⟨fun h => absurd h (by decide), fun h => absurd h (by decide), fun _ _ => E46.out.symm⟩))
    · intro bf ac wv hfb haf hJ K' hK
      obtain ⟨vs, rfl, hM, j4⟩ := hJ
      replace hK := Lib.hid hK
      replace hM := Lib.hid hM
      rw [HG.out] at j4
      simp [Region.binds] at haf
      have e41 := ((j4 41 (by simp [haf])).2.2 (by decide) (by decide)).trans E41.out
      have e45 := ((j4 45 (by simp [haf])).2.2 (by decide) (by decide)).trans E45.out
      have e46 := ((j4 46 (by simp [haf])).2.2 (by decide) (by decide)).trans E46.out
      replace j4 := Lib.hid j4
      clear haf hfb
      rw [HLIT.out]
      go_simp
      go_at_call 21
      refine (rcan_q _ va vc V x c HCx.out _ (H155.out.1.step hM.out) HSV.out).mono ?_
      rintro e w4 ⟨rfl, b4⟩
      exact hK.out _ _ (RS.next (wv := wv) (vs := vs) 47 (x := .bool c) (by rw [HLIT.out]; simp only [upv, e41, e45, e46, Nat.reduceBEq, cond_true, cond_false]) (by rw [HG.out]; exact j4.out) (keep2 b4 hM.out) (by rw [HG.out]; exact fun k v h => ⟨fun q9 => (h.1 q9).step b4, fun q9 => (h.2.1 q9).step b4, h.2.2⟩) (by rw [HG.out]; exact ⟨fun h => absurd h (by decide), fun h => absurd h (by decide), fun _ _ => E47.out.symm⟩))
    · intro bf ac wv hfb haf hJ K' hK
      obtain ⟨vs, rfl, hM, j4⟩ := hJ
      replace hK := Lib.hid hK
      replace hM := Lib.hid hM
      rw [HG.out] at j4
      simp [Region.binds] at haf
      have e41 := ((j4 41 (by simp [haf])).2.2 (by decide) (by decide)).trans E41.out
      have e44 := ((j4 44 (by simp [haf])).2.2 (by decide) (by decide)).trans E44.out
      have e47 := ((j4 47 (by simp [haf])).2.2 (by decide) (by decide)).trans E47.out
      replace j4 := Lib.hid j4
      clear haf hfb
      rw [HLIT.out]
      go_simp
      exact hK.out _ _ (RS.next (wv := wv) (vs := vs) 48 (x := .bool true) (by rw [HLIT.out]; simp only [upv, e41, e44, e47, Nat.reduceBEq, cond_true, cond_false]) (by rw [HG.out]; exact j4.out) hM.out (by rw [HG.out]; exact fun _ _ h => h) (by rw [HG.out]; exact ⟨fun h => absurd h (by decide), fun h => absurd h (by decide), fun _ _ => E48.out.symm⟩))
    · intro bf ac wv hfb haf hJ K' hK
      obtain ⟨vs, rfl, hM, j4⟩ := hJ
      replace hK := Lib.hid hK
      replace hM := Lib.hid hM
      rw [HG.out] at j4
      simp [Region.binds] at haf
      have e41 := ((j4 41 (by simp [haf])).2.2 (by decide) (by decide)).trans E41.out
      have e48 := ((j4 48 (by simp [haf])).2.2 (by decide) (by decide)).trans E48.out
      replace j4 := Lib.hid j4
      clear haf hfb
      rw [HLIT.out]
      go_simp
      exact hK.out _ _ (RS.next (wv := wv) (vs := vs) 49 (x := .bool true) (by rw [HLIT.out]; simp only [upv, e41, e48, Nat.reduceBEq, cond_true, cond_false]) (by rw [HG.out]; exact j4.out) hM.out (by rw [HG.out]; exact fun _ _ h => h) (by rw [HG.out]; exact ⟨fun h => absurd h (by decide), fun h => absurd h (by decide), fun _ _ => E49.out.symm⟩))
    · intro bf ac wv hfb haf hJ K' hK
      obtain ⟨vs, rfl, hM, j4⟩ := hJ
      replace hK := Lib.hid hK
      replace hM := Lib.hid hM
      rw [HG.out] at j4
      simp [Region.binds] at haf
      have e49 := ((j4 49 (by simp [haf])).2.2 (by decide) (by decide)).trans E49.out
      replace j4 := Lib.hid j4
      clear haf hfb
      rw [HLIT.out]
      go_simp
      exact hK.out _ _ (RS.next (wv := wv) (vs := vs) 50 (x := .bool true) (by rw [HLIT.out]; simp only [upv, e49, Nat.reduceBEq, cond_true, cond_false]) (by rw [HG.out]; exact j4.out) hM.out (by rw [HG.out]; exact fun _ _ h => h) (by rw [HG.out]; exact ⟨fun h => absurd h (by decide), fun h => absurd h (by decide), fun _ _ => E50.out.symm⟩))
    · intro bf ac wv hfb haf hJ K' hK
      obtain ⟨vs, rfl, hM, j4⟩ := hJ
      replace hK := Lib.hid hK
      replace hM := Lib.hid hM
      rw [HG.out] at j4
      simp [Region.binds] at haf
      have e50 := ((j4 50 (by simp [haf])).2.2 (by decide) (by decide)).trans E50.out
      replace j4 := Lib.hid j4
      clear haf hfb
      rw [HLIT.out]
      go_simp
      exact hK.out _ _ (RS.next (wv := wv) (vs := vs) 51 (x := .int .i64 x) (by rw [HLIT.out]; simp only [upv, e50, Nat.reduceBEq, cond_true, cond_false]) (by rw [HG.out]; exact j4.out) hM.out (by rw [HG.out]; exact fun _ _ h => h) (by rw [HG.out]; exact ⟨fun h => absurd h (by decide), fun h => absurd h (by decide), fun _ _ => E51.out.symm⟩))
    · intro bf ac wv hfb haf hJ K' hK
      obtain ⟨vs, rfl, hM, j4⟩ := hJ
      replace hK := Lib.hid hK
      replace hM := Lib.hid hM
      rw [HG.out] at j4
      simp [Region.binds] at haf
      have e50 := ((j4 50 (by simp [haf])).2.2 (by decide) (by decide)).trans E50.out
      have e51 := ((j4 51 (by simp [haf])).2.2 (by decide) (by decide)).trans E51.out
      replace j4 := Lib.hid j4
      clear haf hfb
      rw [HLIT.out]
      go_simp
      go_at_call 22
      refine (known_any x _).mono ?_
      rintro e w4 ⟨ua8, uc8, fa8, fc8, rfl, b4, hr8⟩
      exact hK.out _ _ (RS.next (wv := wv) (vs := vs) 52 (x := (.agg #[.slice ua8 (kV x).length uc8, .slice fa8 (kM x).length fc8])) (by rw [HLIT.out]; simp only [upv, e50, e51, Nat.reduceBEq, cond_true, cond_false]) (by rw [HG.out]; exact j4.out) (keep2 b4 hM.out) (by rw [HG.out]; exact fun k v h => ⟨fun q9 => (h.1 q9).step b4, fun q9 => (h.2.1 q9).step b4, h.2.2⟩) (by rw [HG.out]; exact ⟨fun _ => ⟨ua8, uc8, fa8, fc8, rfl, hr8⟩, fun h => absurd h (by decide), fun h52 => absurd rfl h52⟩))
    · intro bf ac wv hfb haf hJ K' hK
      obtain ⟨vs, rfl, hM, j4⟩ := hJ
      replace hK := Lib.hid hK
      replace hM := Lib.hid hM
      rw [HG.out] at j4
      simp [Region.binds] at haf
      have e50 := ((j4 50 (by simp [haf])).2.2 (by decide) (by decide)).trans E50.out
      replace j4 := Lib.hid j4
      clear haf hfb
      rw [HLIT.out]
      go_simp
      exact hK.out _ _ (RS.next (wv := wv) (vs := vs) 53 (x := .int .i64 x) (by rw [HLIT.out]; simp only [upv, e50, Nat.reduceBEq, cond_true, cond_false]) (by rw [HG.out]; exact j4.out) hM.out (by rw [HG.out]; exact fun _ _ h => h) (by rw [HG.out]; exact ⟨fun h => absurd h (by decide), fun h => absurd h (by decide), fun _ _ => E53.out.symm⟩))
    · intro bf ac wv hfb haf hJ K' hK
      obtain ⟨vs, rfl, hM, j4⟩ := hJ
      replace hK := Lib.hid hK
      replace hM := Lib.hid hM
      rw [HG.out] at j4
      simp [Region.binds] at haf
      have e50 := ((j4 50 (by simp [haf])).2.2 (by decide) (by decide)).trans E50.out
      have e53 := ((j4 53 (by simp [haf])).2.2 (by decide) (by decide)).trans E53.out
      replace j4 := Lib.hid j4
      clear haf hfb
      rw [HLIT.out]
      go_simp
      go_at_call 23
      refine (rknown_any x _).mono ?_
      rintro e w4 ⟨ua8, uc8, fa8, fc8, rfl, b4, hr8⟩
      exact hK.out _ _ (RS.next (wv := wv) (vs := vs) 54 (x := (.agg #[.slice ua8 (kV x).length uc8, .slice fa8 (kM x).length fc8])) (by rw [HLIT.out]; simp only [upv, e50, e53, Nat.reduceBEq, cond_true, cond_false]) (by rw [HG.out]; exact j4.out) (keep2 b4 hM.out) (by rw [HG.out]; exact fun k v h => ⟨fun q9 => (h.1 q9).step b4, fun q9 => (h.2.1 q9).step b4, h.2.2⟩) (by rw [HG.out]; exact ⟨fun h => absurd h (by decide), fun _ => ⟨ua8, uc8, fa8, fc8, rfl, hr8⟩, fun h52 => fun h54 => absurd rfl h54⟩))
    · intro bf ac wv hfb haf hJ K' hK
      obtain ⟨vs, rfl, hM, j4⟩ := hJ
      replace hK := Lib.hid hK
      replace hM := Lib.hid hM
      rw [HG.out] at j4
      simp [Region.binds] at haf
      have e50 := ((j4 50 (by simp [haf])).2.2 (by decide) (by decide)).trans E50.out
      have e52 := (j4 52 (by simp [haf])).1 rfl
      have e54 := (j4 54 (by simp [haf])).2.1 rfl
      replace j4 := Lib.hid j4
      clear haf hfb
      obtain ⟨ua8, uc8, fa8, fc8, e52, hr8⟩ := e52
      obtain ⟨ub8, ud8, fb8, fd8, e54, hs8⟩ := e54
      rw [HLIT.out]
      go_simp
      go_at_call 19
      refine (same_any (kV x) (kM x) ua8 uc8 fa8 fc8 ub8 ud8 fb8 fd8 _ hr8 hs8 (kM_len x)).mono ?_
      rintro e w4 ⟨rfl, b4⟩
      exact hK.out _ _ (RS.next (wv := wv) (vs := vs) 55 (x := .bool true) (by rw [HLIT.out]; simp only [upv, e50, e52, e54, Nat.reduceBEq, cond_true, cond_false]) (by rw [HG.out]; exact j4.out) (keep2 b4 hM.out) (by rw [HG.out]; exact fun k v h => ⟨fun q9 => (h.1 q9).step b4, fun q9 => (h.2.1 q9).step b4, h.2.2⟩) (by rw [HG.out]; exact ⟨fun h => absurd h (by decide), fun h => absurd h (by decide), fun _ _ => E55.out.symm⟩))
    · intro bf ac wv hfb haf hJ K' hK
      obtain ⟨vs, rfl, hM, j4⟩ := hJ
      replace hK := Lib.hid hK
      replace hM := Lib.hid hM
      rw [HG.out] at j4
      simp [Region.binds] at haf
      have e50 := ((j4 50 (by simp [haf])).2.2 (by decide) (by decide)).trans E50.out
      have e55 := ((j4 55 (by simp [haf])).2.2 (by decide) (by decide)).trans E55.out
      replace j4 := Lib.hid j4
      clear haf hfb
      rw [HLIT.out]
      go_simp
      exact hK.out _ _ (RS.next (wv := wv) (vs := vs) 56 (x := .bool true) (by rw [HLIT.out]; simp only [upv, e50, e55, Nat.reduceBEq, cond_true, cond_false]) (by rw [HG.out]; exact j4.out) hM.out (by rw [HG.out]; exact fun _ _ h => h) (by rw [HG.out]; exact ⟨fun h => absurd h (by decide), fun h => absurd h (by decide), fun _ _ => E56.out.symm⟩))
    · intro bf ac wv hfb haf hJ K' hK
      obtain ⟨vs, rfl, hM, j4⟩ := hJ
      replace hK := Lib.hid hK
      replace hM := Lib.hid hM
      rw [HG.out] at j4
      simp [Region.binds] at haf
      have e56 := ((j4 56 (by simp [haf])).2.2 (by decide) (by decide)).trans E56.out
      replace j4 := Lib.hid j4
      clear haf hfb
      rw [HLIT.out]
      go_simp
      exact hK.out _ _ (RS.next (wv := wv) (vs := vs) 57 (x := .bool true) (by rw [HLIT.out]; simp only [upv, e56, Nat.reduceBEq, cond_true, cond_false]) (by rw [HG.out]; exact j4.out) hM.out (by rw [HG.out]; exact fun _ _ h => h) (by rw [HG.out]; exact ⟨fun h => absurd h (by decide), fun h => absurd h (by decide), fun _ _ => E57.out.symm⟩))
  · intro bf ac wv hall hJ
    obtain ⟨vs, rfl, hM, j4⟩ := hJ
    rw [HG.out] at j4
    have e57 := ((j4 57 (hall 57 (by decide))).2.2 (by decide) (by decide)).trans E57.out
    have HM9 := Lib.hid hM
    clear hM j4 hall
    rw [HLIT.out]
    dsimp only
    rw [e57]
    clear e57
    go_wp2
    go_ret
    exact ⟨rfl, keep2 HM9.out H170.out⟩
set_option maxRecDepth 100000 in
set_option maxHeartbeats 8000000 in
theorem match_any (va : Option Addr) (vc : Nat) (V : List Int) (sa : Option Addr) (sc : Nat) (L : List Od) (o : Od) (q x t : Int) (w : World) (h : Rb V L va vc sa sc w) (h9 : L.length ≤ maxLen) (h8 : V.length ≤ maxLen)  :
    Calls Try.prog 3 #[.agg #[.slice va V.length vc, .slice sa L.length sc], .agg #[.int .i64 o.a, .int .i64 o.b, .int .i64 o.c, .int .i64 o.d], .int .i64 q, .int .i64 x, .int .i64 t] w fun e w' => e = .returned (.bool true) ∧ Below w.heap.size w w' := by
  by_cases hl : 30 < L.length
  · exact match_noL va vc V sa sc L o q x t w h h9 h8 hl
  · by_cases hv : 30 < V.length
    · exact match_noV va vc V sa sc L o q x t w h h9 h8 hl hv
    · exact match_go va vc V sa sc L o q x t w h h9 h8 hl hv rfl rfl rfl rfl rfl rfl rfl rfl rfl rfl rfl rfl (len_sn V L o) (len_cn V L q) (len_rn V L x t)
end Go.Proofs.Ytigpopemllamdaa
