/- Capabilities: law CapabilityMatchesReference, the walk. -/
import Derived.Test.YtdifgdnndmikaaaNc
import Derived.Test.YtdifgdnndmikaaaKy
namespace Go.Proofs.Ytdifgdnndmikaaa
open Go.RowKit

/-- What 'Narrow' gives, in one form. -/
def nrI (er id : Int) : Int := if er = 0 then id else 0
def nrM (er : Int) (l : List Cv) (c : Cv) : List Cv := if er = 0 then l ++ [c] else []
theorem narrow_form (id tag k v : Int) (sl : Value) (l : List Cv) (w : World) (h : CvsAt w sl l) : Calls Try.prog 10 #[.agg #[.int .i64 id, sl, .int .i64 tag], .agg #[.int .i64 k, .int .i64 v]] w fun e w' =>
    ∃ a n c, e = .returned (.tuple #[.agg #[.int .i64 (nrI (nrE id tag l k v) id), .slice a n c, .int .i64 (nrI (nrE id tag l k v) (tgN tag ⟨k, v⟩))], .int .i64 (nrE id tag l k v)]) ∧ CvsAt w' (.slice a n c) (nrM (nrE id tag l k v) l ⟨k, v⟩) ∧ Below w.heap.size w w' := by
  refine (narrow_any id tag k v sl l w h).mono fun e w' q => ?_
  obtain ⟨vr, q1, q2, q3, q4⟩ := q
  unfold nrI nrM
  by_cases h0 : nrE id tag l k v = 0
  · obtain ⟨u, rfl, hu⟩ := q3 h0
    have hu2 := hu
    obtain ⟨a, c, rfl, -⟩ := hu2
    exact ⟨a, _, c, by rw [if_pos h0, if_pos h0]; exact q1, by rw [if_pos h0]; exact hu, q2⟩
  · have := q4 h0
    subst this
    exact ⟨none, 0, 0, by rw [if_neg h0, if_neg h0]; exact q1, by rw [if_neg h0]; exact cvs_nil _, q2⟩
theorem rnarrow_form (id tag k v : Int) (sl : Value) (l : List Cv) (w : World) (h : CvsAt w sl l) : Calls Try.prog 11 #[.agg #[.int .i64 id, sl, .int .i64 tag], .agg #[.int .i64 k, .int .i64 v]] w fun e w' =>
    ∃ a n c, e = .returned (.tuple #[.agg #[.int .i64 (nrI (nrE id tag l k v) id), .slice a n c, .int .i64 (nrI (nrE id tag l k v) (tgN tag ⟨k, v⟩))], .int .i64 (nrE id tag l k v)]) ∧ CvsAt w' (.slice a n c) (nrM (nrE id tag l k v) l ⟨k, v⟩) ∧ Below w.heap.size w w' := by
  refine (rnarrow_any id tag k v sl l w h).mono fun e w' q => ?_
  obtain ⟨vr, q1, q2, q3, q4⟩ := q
  unfold nrI nrM
  by_cases h0 : nrE id tag l k v = 0
  · obtain ⟨u, rfl, hu⟩ := q3 h0
    have hu2 := hu
    obtain ⟨a, c, rfl, -⟩ := hu2
    exact ⟨a, _, c, by rw [if_pos h0, if_pos h0]; exact q1, by rw [if_pos h0]; exact hu, q2⟩
  · have := q4 h0
    subst this
    exact ⟨none, 0, 0, by rw [if_neg h0, if_neg h0]; exact q1, by rw [if_neg h0]; exact cvs_nil _, q2⟩
theorem mt_form (key id : Int) : ∃ i0 t0, mtV key id = .agg #[.int .i64 i0, .slice none 0 0, .int .i64 t0] := by
  obtain ⟨i0, t0, h, -⟩ := mt_val key id
  exact ⟨i0, t0, h⟩
set_option maxRecDepth 100000 in
set_option maxHeartbeats 4000000 in
theorem match_len (key id i g : Int) (sl : Value) (l : List Cv) (ck cz r v x t u : Int) (w : World) (h : CvsAt w sl l) (hl : 20 < l.length) : Calls Try.prog 3 #[.int .i64 key, .int .i64 id, .agg #[.int .i64 i, sl, .int .i64 g], .agg #[.int .i64 ck, .int .i64 cz], .agg #[.int .i64 r, .int .i64 v, .int .i64 x, .int .i64 t], .int .i64 u] w fun e w' => e = .returned (.bool true) ∧ Below w.heap.size w w' := by
  have H := Lib.hid h
  obtain ⟨a, cap, rfl, -, hm, -⟩ := h
  unfold maxLen at hm
  have hg : decide ((l.length : Int) > 20) = true := by simp; omega
  have hg2 : decide ((20 : Int) < l.length) = true := by simp; omega
  have HB0 := Lib.hid (Below.refl w.heap.size w)
  go_enter Try.func3, Try.ntmps3
  have KA_1 := Lib.hid (Cs.new w (w.heap.size) #[.int .i64 i, .slice a l.length cap, .int .i64 g] 24 (by simp))
  have HB2 : Hid (Below w.heap.size w (w.alloc (.cells #[.int .i64 i, .slice a l.length cap, .int .i64 g] 24))) := HB0.out.alloc HB0.out.size _
  clear HB0
  have KA_3 := Lib.hid (KA_1.out.alloc (.cells #[.int .i64 ck, .int .i64 cz] 26))
  clear KA_1
  have KV_4 := Lib.hid (Cs.new (w.alloc (.cells #[.int .i64 i, .slice a l.length cap, .int .i64 g] 24)) (w.heap.size + 1) #[.int .i64 ck, .int .i64 cz] 26 (by simp))
  have HB5 : Hid (Below w.heap.size w ((w.alloc (.cells #[.int .i64 i, .slice a l.length cap, .int .i64 g] 24)).alloc (.cells #[.int .i64 ck, .int .i64 cz] 26))) := HB2.out.alloc HB2.out.size _
  clear HB2
  have KA_6 := Lib.hid (KA_3.out.alloc (.cells #[.int .i64 r, .int .i64 v, .int .i64 x, .int .i64 t] 28))
  clear KA_3
  have KV_7 := Lib.hid (KV_4.out.alloc (.cells #[.int .i64 r, .int .i64 v, .int .i64 x, .int .i64 t] 28))
  clear KV_4
  have KK_8 := Lib.hid (Cs.new ((w.alloc (.cells #[.int .i64 i, .slice a l.length cap, .int .i64 g] 24)).alloc (.cells #[.int .i64 ck, .int .i64 cz] 26)) (w.heap.size + 1 + 1) #[.int .i64 r, .int .i64 v, .int .i64 x, .int .i64 t] 28 (by simp))
  have HB9 : Hid (Below w.heap.size w (((w.alloc (.cells #[.int .i64 i, .slice a l.length cap, .int .i64 g] 24)).alloc (.cells #[.int .i64 ck, .int .i64 cz] 26)).alloc (.cells #[.int .i64 r, .int .i64 v, .int .i64 x, .int .i64 t] 28))) := HB5.out.alloc HB5.out.size _
  clear HB5
  go_wp2_with fail
  refine (head_any _).mono ?_
  rintro e u1 ⟨rfl, b1⟩
  have KA_10 := Lib.hid (KA_6.out.step b1)
  clear KA_6
  have KV_11 := Lib.hid (KV_7.out.step b1)
  clear KV_7
  have KK_12 := Lib.hid (KK_8.out.step b1)
  clear KK_8
  have HB13 := Lib.hid (keep2 b1 HB9.out)
  clear HB9 b1
  have xA0 : u1.cell? ⟨w.heap.size, 0, none⟩ = some (.int .i64 i) := KA_10.out.c 0 rfl
  have xA1 : u1.cell? ⟨w.heap.size, 1, none⟩ = some (.slice a l.length cap) := KA_10.out.c 1 rfl
  have xA2 : u1.cell? ⟨w.heap.size, 2, none⟩ = some (.int .i64 g) := KA_10.out.c 2 rfl
  have zA : w.heap.size < u1.heap.size := KA_10.out.2.2
  have z2A : w.heap.size < u1.heap.size + 1 := by omega
  have xV0 : u1.cell? ⟨w.heap.size + 1, 0, none⟩ = some (.int .i64 ck) := KV_11.out.c 0 rfl
  have xV1 : u1.cell? ⟨w.heap.size + 1, 1, none⟩ = some (.int .i64 cz) := KV_11.out.c 1 rfl
  have zV : w.heap.size + 1 < u1.heap.size := KV_11.out.2.2
  have z2V : w.heap.size + 1 < u1.heap.size + 1 := by omega
  go_wp2
  go_ret
  exact ⟨rfl, HB13.out⟩
set_option maxRecDepth 100000 in
set_option maxHeartbeats 4000000 in
theorem match_ok (key id i g : Int) (sl : Value) (l : List Cv) (ck cz r v x t u : Int) (w : World) (h : CvsAt w sl l) (hl : l.length ≤ 20) : Calls Try.prog 3 #[.int .i64 key, .int .i64 id, .agg #[.int .i64 i, sl, .int .i64 g], .agg #[.int .i64 ck, .int .i64 cz], .agg #[.int .i64 r, .int .i64 v, .int .i64 x, .int .i64 t], .int .i64 u] w fun e w' => e = .returned (.bool true) ∧ Below w.heap.size w w' := by
  have H := Lib.hid h
  obtain ⟨a, cap, rfl, -, hm, -⟩ := h
  unfold maxLen at hm
  have hg : decide ((l.length : Int) > 20) = false := by simp; omega
  have hg2 : decide ((20 : Int) < l.length) = false := by simp; omega
  have HB0 := Lib.hid (Below.refl w.heap.size w)
  go_enter Try.func3, Try.ntmps3
  have KA_1 := Lib.hid (Cs.new w (w.heap.size) #[.int .i64 i, .slice a l.length cap, .int .i64 g] 24 (by simp))
  have HB2 : Hid (Below w.heap.size w (w.alloc (.cells #[.int .i64 i, .slice a l.length cap, .int .i64 g] 24))) := HB0.out.alloc HB0.out.size _
  clear HB0
  have KA_3 := Lib.hid (KA_1.out.alloc (.cells #[.int .i64 ck, .int .i64 cz] 26))
  clear KA_1
  have KV_4 := Lib.hid (Cs.new (w.alloc (.cells #[.int .i64 i, .slice a l.length cap, .int .i64 g] 24)) (w.heap.size + 1) #[.int .i64 ck, .int .i64 cz] 26 (by simp))
  have HB5 : Hid (Below w.heap.size w ((w.alloc (.cells #[.int .i64 i, .slice a l.length cap, .int .i64 g] 24)).alloc (.cells #[.int .i64 ck, .int .i64 cz] 26))) := HB2.out.alloc HB2.out.size _
  clear HB2
  have KA_6 := Lib.hid (KA_3.out.alloc (.cells #[.int .i64 r, .int .i64 v, .int .i64 x, .int .i64 t] 28))
  clear KA_3
  have KV_7 := Lib.hid (KV_4.out.alloc (.cells #[.int .i64 r, .int .i64 v, .int .i64 x, .int .i64 t] 28))
  clear KV_4
  have KK_8 := Lib.hid (Cs.new ((w.alloc (.cells #[.int .i64 i, .slice a l.length cap, .int .i64 g] 24)).alloc (.cells #[.int .i64 ck, .int .i64 cz] 26)) (w.heap.size + 1 + 1) #[.int .i64 r, .int .i64 v, .int .i64 x, .int .i64 t] 28 (by simp))
  have HB9 : Hid (Below w.heap.size w (((w.alloc (.cells #[.int .i64 i, .slice a l.length cap, .int .i64 g] 24)).alloc (.cells #[.int .i64 ck, .int .i64 cz] 26)).alloc (.cells #[.int .i64 r, .int .i64 v, .int .i64 x, .int .i64 t] 28))) := HB5.out.alloc HB5.out.size _
  clear HB5
  go_wp2_with fail
  refine (head_any _).mono ?_
  rintro e u1 ⟨rfl, b1⟩
  have KA_10 := Lib.hid (KA_6.out.step b1)
  clear KA_6
  have KV_11 := Lib.hid (KV_7.out.step b1)
  clear KV_7
  have KK_12 := Lib.hid (KK_8.out.step b1)
  clear KK_8
  have HB13 := Lib.hid (keep2 b1 HB9.out)
  clear HB9 b1
  have xA0 : u1.cell? ⟨w.heap.size, 0, none⟩ = some (.int .i64 i) := KA_10.out.c 0 rfl
  have xA1 : u1.cell? ⟨w.heap.size, 1, none⟩ = some (.slice a l.length cap) := KA_10.out.c 1 rfl
  have xA2 : u1.cell? ⟨w.heap.size, 2, none⟩ = some (.int .i64 g) := KA_10.out.c 2 rfl
  have zA : w.heap.size < u1.heap.size := KA_10.out.2.2
  have z2A : w.heap.size < u1.heap.size + 1 := by omega
  have xV0 : u1.cell? ⟨w.heap.size + 1, 0, none⟩ = some (.int .i64 ck) := KV_11.out.c 0 rfl
  have xV1 : u1.cell? ⟨w.heap.size + 1, 1, none⟩ = some (.int .i64 cz) := KV_11.out.c 1 rfl
  have zV : w.heap.size + 1 < u1.heap.size := KV_11.out.2.2
  have z2V : w.heap.size + 1 < u1.heap.size + 1 := by omega
  obtain ⟨er, her⟩ : ∃ er, nrE i g l ck cz = er := ⟨_, rfl⟩
  have HE := Lib.hid her
  clear her
  go_wp2_with fail
  refine (narrow_form i g ck cz _ l _ (H.out.step HB13.out)).mono ?_
  rintro e u21 ⟨a1, n1, c1, rfl, h1, b21⟩
  rw [HE.out] at h1 ⊢
  have HS1 := Lib.hid h1
  clear h1
  clear xA0 xA1 xA2 zA z2A xV0 xV1 zV z2V
  have KA_14 := Lib.hid (KA_10.out.step b21)
  clear KA_10
  have KV_15 := Lib.hid (KV_11.out.step b21)
  clear KV_11
  have KK_16 := Lib.hid (KK_12.out.step b21)
  clear KK_12
  have HB17 := Lib.hid (keep2 b21 HB13.out)
  clear HB13 b21
  have KA_18 := Lib.hid (KA_14.out.alloc (.cells #[.int .i64 (nrI er i), .slice a1 n1 c1, .int .i64 (nrI er (tgN g ⟨ck, cz⟩))] 24))
  clear KA_14
  have KV_19 := Lib.hid (KV_15.out.alloc (.cells #[.int .i64 (nrI er i), .slice a1 n1 c1, .int .i64 (nrI er (tgN g ⟨ck, cz⟩))] 24))
  clear KV_15
  have KK_20 := Lib.hid (KK_16.out.alloc (.cells #[.int .i64 (nrI er i), .slice a1 n1 c1, .int .i64 (nrI er (tgN g ⟨ck, cz⟩))] 24))
  clear KK_16
  have KX_21 := Lib.hid (Cs.new u21 (u21.heap.size) #[.int .i64 (nrI er i), .slice a1 n1 c1, .int .i64 (nrI er (tgN g ⟨ck, cz⟩))] 24 (by simp))
  have HB22 : Hid (Below w.heap.size w (u21.alloc (.cells #[.int .i64 (nrI er i), .slice a1 n1 c1, .int .i64 (nrI er (tgN g ⟨ck, cz⟩))] 24))) := HB17.out.alloc HB17.out.size _
  clear HB17
  replace HS1 := Lib.hid (HS1.out.step (al u21 (.cells #[.int .i64 (nrI er i), .slice a1 n1 c1, .int .i64 (nrI er (tgN g ⟨ck, cz⟩))] 24)))
  have xA0 : (u21.alloc (.cells #[.int .i64 (nrI er i), .slice a1 n1 c1, .int .i64 (nrI er (tgN g ⟨ck, cz⟩))] 24)).cell? ⟨w.heap.size, 0, none⟩ = some (.int .i64 i) := KA_18.out.c 0 rfl
  have xA1 : (u21.alloc (.cells #[.int .i64 (nrI er i), .slice a1 n1 c1, .int .i64 (nrI er (tgN g ⟨ck, cz⟩))] 24)).cell? ⟨w.heap.size, 1, none⟩ = some (.slice a l.length cap) := KA_18.out.c 1 rfl
  have xA2 : (u21.alloc (.cells #[.int .i64 (nrI er i), .slice a1 n1 c1, .int .i64 (nrI er (tgN g ⟨ck, cz⟩))] 24)).cell? ⟨w.heap.size, 2, none⟩ = some (.int .i64 g) := KA_18.out.c 2 rfl
  have zA : w.heap.size < (u21.alloc (.cells #[.int .i64 (nrI er i), .slice a1 n1 c1, .int .i64 (nrI er (tgN g ⟨ck, cz⟩))] 24)).heap.size := KA_18.out.2.2
  have z2A : w.heap.size < (u21.alloc (.cells #[.int .i64 (nrI er i), .slice a1 n1 c1, .int .i64 (nrI er (tgN g ⟨ck, cz⟩))] 24)).heap.size + 1 := by omega
  have xV0 : (u21.alloc (.cells #[.int .i64 (nrI er i), .slice a1 n1 c1, .int .i64 (nrI er (tgN g ⟨ck, cz⟩))] 24)).cell? ⟨w.heap.size + 1, 0, none⟩ = some (.int .i64 ck) := KV_19.out.c 0 rfl
  have xV1 : (u21.alloc (.cells #[.int .i64 (nrI er i), .slice a1 n1 c1, .int .i64 (nrI er (tgN g ⟨ck, cz⟩))] 24)).cell? ⟨w.heap.size + 1, 1, none⟩ = some (.int .i64 cz) := KV_19.out.c 1 rfl
  have zV : w.heap.size + 1 < (u21.alloc (.cells #[.int .i64 (nrI er i), .slice a1 n1 c1, .int .i64 (nrI er (tgN g ⟨ck, cz⟩))] 24)).heap.size := KV_19.out.2.2
  have z2V : w.heap.size + 1 < (u21.alloc (.cells #[.int .i64 (nrI er i), .slice a1 n1 c1, .int .i64 (nrI er (tgN g ⟨ck, cz⟩))] 24)).heap.size + 1 := by omega
  go_wp2_with fail
  refine (rnarrow_form i g ck cz _ l _ (H.out.step HB22.out)).mono ?_
  rintro e u22 ⟨a2, n2, c2, rfl, h2, b22⟩
  rw [HE.out] at h2 ⊢
  have HS2 := Lib.hid h2
  clear h2
  replace HS1 := Lib.hid (HS1.out.step b22)
  clear xA0 xA1 xA2 zA z2A xV0 xV1 zV z2V
  have KA_23 := Lib.hid (KA_18.out.step b22)
  clear KA_18
  have KV_24 := Lib.hid (KV_19.out.step b22)
  clear KV_19
  have KK_25 := Lib.hid (KK_20.out.step b22)
  clear KK_20
  have KX_26 := Lib.hid (KX_21.out.step b22)
  clear KX_21
  have HB27 := Lib.hid (keep2 b22 HB22.out)
  clear HB22 b22
  have KA_28 := Lib.hid (KA_23.out.alloc (.cells #[.int .i64 (nrI er i), .slice a2 n2 c2, .int .i64 (nrI er (tgN g ⟨ck, cz⟩))] 24))
  clear KA_23
  have KV_29 := Lib.hid (KV_24.out.alloc (.cells #[.int .i64 (nrI er i), .slice a2 n2 c2, .int .i64 (nrI er (tgN g ⟨ck, cz⟩))] 24))
  clear KV_24
  have KK_30 := Lib.hid (KK_25.out.alloc (.cells #[.int .i64 (nrI er i), .slice a2 n2 c2, .int .i64 (nrI er (tgN g ⟨ck, cz⟩))] 24))
  clear KK_25
  have KX_31 := Lib.hid (KX_26.out.alloc (.cells #[.int .i64 (nrI er i), .slice a2 n2 c2, .int .i64 (nrI er (tgN g ⟨ck, cz⟩))] 24))
  clear KX_26
  have KY_32 := Lib.hid (Cs.new u22 (u22.heap.size) #[.int .i64 (nrI er i), .slice a2 n2 c2, .int .i64 (nrI er (tgN g ⟨ck, cz⟩))] 24 (by simp))
  have HB33 : Hid (Below w.heap.size w (u22.alloc (.cells #[.int .i64 (nrI er i), .slice a2 n2 c2, .int .i64 (nrI er (tgN g ⟨ck, cz⟩))] 24))) := HB27.out.alloc HB27.out.size _
  clear HB27
  replace HS2 := Lib.hid (HS2.out.step (al u22 (.cells #[.int .i64 (nrI er i), .slice a2 n2 c2, .int .i64 (nrI er (tgN g ⟨ck, cz⟩))] 24)))
  replace HS1 := Lib.hid (HS1.out.step (al u22 (.cells #[.int .i64 (nrI er i), .slice a2 n2 c2, .int .i64 (nrI er (tgN g ⟨ck, cz⟩))] 24)))
  have xA0 : (u22.alloc (.cells #[.int .i64 (nrI er i), .slice a2 n2 c2, .int .i64 (nrI er (tgN g ⟨ck, cz⟩))] 24)).cell? ⟨w.heap.size, 0, none⟩ = some (.int .i64 i) := KA_28.out.c 0 rfl
  have xA1 : (u22.alloc (.cells #[.int .i64 (nrI er i), .slice a2 n2 c2, .int .i64 (nrI er (tgN g ⟨ck, cz⟩))] 24)).cell? ⟨w.heap.size, 1, none⟩ = some (.slice a l.length cap) := KA_28.out.c 1 rfl
  have xA2 : (u22.alloc (.cells #[.int .i64 (nrI er i), .slice a2 n2 c2, .int .i64 (nrI er (tgN g ⟨ck, cz⟩))] 24)).cell? ⟨w.heap.size, 2, none⟩ = some (.int .i64 g) := KA_28.out.c 2 rfl
  have zA : w.heap.size < (u22.alloc (.cells #[.int .i64 (nrI er i), .slice a2 n2 c2, .int .i64 (nrI er (tgN g ⟨ck, cz⟩))] 24)).heap.size := KA_28.out.2.2
  have z2A : w.heap.size < (u22.alloc (.cells #[.int .i64 (nrI er i), .slice a2 n2 c2, .int .i64 (nrI er (tgN g ⟨ck, cz⟩))] 24)).heap.size + 1 := by omega
  have xV0 : (u22.alloc (.cells #[.int .i64 (nrI er i), .slice a2 n2 c2, .int .i64 (nrI er (tgN g ⟨ck, cz⟩))] 24)).cell? ⟨w.heap.size + 1, 0, none⟩ = some (.int .i64 ck) := KV_29.out.c 0 rfl
  have xV1 : (u22.alloc (.cells #[.int .i64 (nrI er i), .slice a2 n2 c2, .int .i64 (nrI er (tgN g ⟨ck, cz⟩))] 24)).cell? ⟨w.heap.size + 1, 1, none⟩ = some (.int .i64 cz) := KV_29.out.c 1 rfl
  have zV : w.heap.size + 1 < (u22.alloc (.cells #[.int .i64 (nrI er i), .slice a2 n2 c2, .int .i64 (nrI er (tgN g ⟨ck, cz⟩))] 24)).heap.size := KV_29.out.2.2
  have z2V : w.heap.size + 1 < (u22.alloc (.cells #[.int .i64 (nrI er i), .slice a2 n2 c2, .int .i64 (nrI er (tgN g ⟨ck, cz⟩))] 24)).heap.size + 1 := by omega
  clear xA0 xA1 xA2 zA z2A xV0 xV1 zV z2V
  obtain ⟨i0, t0, hmt⟩ := mt_form key id
  have xX0 : (u22.alloc (.cells #[.int .i64 (nrI er i), .slice a2 n2 c2, .int .i64 (nrI er (tgN g ⟨ck, cz⟩))] 24)).cell? ⟨u21.heap.size, 0, none⟩ = some (.int .i64 (nrI er i)) := KX_31.out.c 0 rfl
  have xX1 : (u22.alloc (.cells #[.int .i64 (nrI er i), .slice a2 n2 c2, .int .i64 (nrI er (tgN g ⟨ck, cz⟩))] 24)).cell? ⟨u21.heap.size, 1, none⟩ = some (.slice a1 n1 c1) := KX_31.out.c 1 rfl
  have xX2 : (u22.alloc (.cells #[.int .i64 (nrI er i), .slice a2 n2 c2, .int .i64 (nrI er (tgN g ⟨ck, cz⟩))] 24)).cell? ⟨u21.heap.size, 2, none⟩ = some (.int .i64 (nrI er (tgN g ⟨ck, cz⟩))) := KX_31.out.c 2 rfl
  have zX : u21.heap.size < (u22.alloc (.cells #[.int .i64 (nrI er i), .slice a2 n2 c2, .int .i64 (nrI er (tgN g ⟨ck, cz⟩))] 24)).heap.size := KX_31.out.2.2
  have z2X : u21.heap.size < (u22.alloc (.cells #[.int .i64 (nrI er i), .slice a2 n2 c2, .int .i64 (nrI er (tgN g ⟨ck, cz⟩))] 24)).heap.size + 1 := by omega
  have xY0 : (u22.alloc (.cells #[.int .i64 (nrI er i), .slice a2 n2 c2, .int .i64 (nrI er (tgN g ⟨ck, cz⟩))] 24)).cell? ⟨u22.heap.size, 0, none⟩ = some (.int .i64 (nrI er i)) := KY_32.out.c 0 rfl
  have xY1 : (u22.alloc (.cells #[.int .i64 (nrI er i), .slice a2 n2 c2, .int .i64 (nrI er (tgN g ⟨ck, cz⟩))] 24)).cell? ⟨u22.heap.size, 1, none⟩ = some (.slice a2 n2 c2) := KY_32.out.c 1 rfl
  have xY2 : (u22.alloc (.cells #[.int .i64 (nrI er i), .slice a2 n2 c2, .int .i64 (nrI er (tgN g ⟨ck, cz⟩))] 24)).cell? ⟨u22.heap.size, 2, none⟩ = some (.int .i64 (nrI er (tgN g ⟨ck, cz⟩))) := KY_32.out.c 2 rfl
  have zY : u22.heap.size < (u22.alloc (.cells #[.int .i64 (nrI er i), .slice a2 n2 c2, .int .i64 (nrI er (tgN g ⟨ck, cz⟩))] 24)).heap.size := KY_32.out.2.2
  have z2Y : u22.heap.size < (u22.alloc (.cells #[.int .i64 (nrI er i), .slice a2 n2 c2, .int .i64 (nrI er (tgN g ⟨ck, cz⟩))] 24)).heap.size + 1 := by omega
  go_wp2_with fail
  refine (mint_any key id _).mono ?_
  rintro e u3 ⟨rfl, b3⟩
  rw [hmt]
  replace HS1 := Lib.hid (HS1.out.step b3)
  replace HS2 := Lib.hid (HS2.out.step b3)
  clear xX0 xX1 xX2 zX z2X xY0 xY1 xY2 zY z2Y
  have KA_34 := Lib.hid (KA_28.out.step b3)
  clear KA_28
  have KV_35 := Lib.hid (KV_29.out.step b3)
  clear KV_29
  have KK_36 := Lib.hid (KK_30.out.step b3)
  clear KK_30
  have KX_37 := Lib.hid (KX_31.out.step b3)
  clear KX_31
  have KY_38 := Lib.hid (KY_32.out.step b3)
  clear KY_32
  have HB39 := Lib.hid (keep2 b3 HB33.out)
  clear HB33 b3
  have xX0 : u3.cell? ⟨u21.heap.size, 0, none⟩ = some (.int .i64 (nrI er i)) := KX_37.out.c 0 rfl
  have xX1 : u3.cell? ⟨u21.heap.size, 1, none⟩ = some (.slice a1 n1 c1) := KX_37.out.c 1 rfl
  have xX2 : u3.cell? ⟨u21.heap.size, 2, none⟩ = some (.int .i64 (nrI er (tgN g ⟨ck, cz⟩))) := KX_37.out.c 2 rfl
  have zX : u21.heap.size < u3.heap.size := KX_37.out.2.2
  have z2X : u21.heap.size < u3.heap.size + 1 := by omega
  have xY0 : u3.cell? ⟨u22.heap.size, 0, none⟩ = some (.int .i64 (nrI er i)) := KY_38.out.c 0 rfl
  have xY1 : u3.cell? ⟨u22.heap.size, 1, none⟩ = some (.slice a2 n2 c2) := KY_38.out.c 1 rfl
  have xY2 : u3.cell? ⟨u22.heap.size, 2, none⟩ = some (.int .i64 (nrI er (tgN g ⟨ck, cz⟩))) := KY_38.out.c 2 rfl
  have zY : u22.heap.size < u3.heap.size := KY_38.out.2.2
  have z2Y : u22.heap.size < u3.heap.size + 1 := by omega
  go_wp2_with fail
  refine (rmint_any key id _).mono ?_
  rintro e u4 ⟨rfl, b4⟩
  rw [hmt]
  clear hmt
  replace HS1 := Lib.hid (HS1.out.step b4)
  replace HS2 := Lib.hid (HS2.out.step b4)
  clear xX0 xX1 xX2 zX z2X xY0 xY1 xY2 zY z2Y
  have KA_40 := Lib.hid (KA_34.out.step b4)
  clear KA_34
  have KV_41 := Lib.hid (KV_35.out.step b4)
  clear KV_35
  have KK_42 := Lib.hid (KK_36.out.step b4)
  clear KK_36
  have KX_43 := Lib.hid (KX_37.out.step b4)
  clear KX_37
  have KY_44 := Lib.hid (KY_38.out.step b4)
  clear KY_38
  have HB45 := Lib.hid (keep2 b4 HB39.out)
  clear HB39 b4
  have xX0 : u4.cell? ⟨u21.heap.size, 0, none⟩ = some (.int .i64 (nrI er i)) := KX_43.out.c 0 rfl
  have xX1 : u4.cell? ⟨u21.heap.size, 1, none⟩ = some (.slice a1 n1 c1) := KX_43.out.c 1 rfl
  have xX2 : u4.cell? ⟨u21.heap.size, 2, none⟩ = some (.int .i64 (nrI er (tgN g ⟨ck, cz⟩))) := KX_43.out.c 2 rfl
  have zX : u21.heap.size < u4.heap.size := KX_43.out.2.2
  have z2X : u21.heap.size < u4.heap.size + 1 := by omega
  have xY0 : u4.cell? ⟨u22.heap.size, 0, none⟩ = some (.int .i64 (nrI er i)) := KY_44.out.c 0 rfl
  have xY1 : u4.cell? ⟨u22.heap.size, 1, none⟩ = some (.slice a2 n2 c2) := KY_44.out.c 1 rfl
  have xY2 : u4.cell? ⟨u22.heap.size, 2, none⟩ = some (.int .i64 (nrI er (tgN g ⟨ck, cz⟩))) := KY_44.out.c 2 rfl
  have zY : u22.heap.size < u4.heap.size := KY_44.out.2.2
  have z2Y : u22.heap.size < u4.heap.size + 1 := by omega
  go_wp2_with fail
  refine (same_yes i0 t0 _ _ [] _ (cvs_nil _) (cvs_nil _)).mono ?_
  rintro e u5 ⟨rfl, b5⟩
  replace HS1 := Lib.hid (HS1.out.step b5)
  replace HS2 := Lib.hid (HS2.out.step b5)
  clear xX0 xX1 xX2 zX z2X xY0 xY1 xY2 zY z2Y
  have KA_46 := Lib.hid (KA_40.out.step b5)
  clear KA_40
  have KV_47 := Lib.hid (KV_41.out.step b5)
  clear KV_41
  have KK_48 := Lib.hid (KK_42.out.step b5)
  clear KK_42
  have KX_49 := Lib.hid (KX_43.out.step b5)
  clear KX_43
  have KY_50 := Lib.hid (KY_44.out.step b5)
  clear KY_44
  have HB51 := Lib.hid (keep2 b5 HB45.out)
  clear HB45 b5
  have xX0 : u5.cell? ⟨u21.heap.size, 0, none⟩ = some (.int .i64 (nrI er i)) := KX_49.out.c 0 rfl
  have xX1 : u5.cell? ⟨u21.heap.size, 1, none⟩ = some (.slice a1 n1 c1) := KX_49.out.c 1 rfl
  have xX2 : u5.cell? ⟨u21.heap.size, 2, none⟩ = some (.int .i64 (nrI er (tgN g ⟨ck, cz⟩))) := KX_49.out.c 2 rfl
  have zX : u21.heap.size < u5.heap.size := KX_49.out.2.2
  have z2X : u21.heap.size < u5.heap.size + 1 := by omega
  have xY0 : u5.cell? ⟨u22.heap.size, 0, none⟩ = some (.int .i64 (nrI er i)) := KY_50.out.c 0 rfl
  have xY1 : u5.cell? ⟨u22.heap.size, 1, none⟩ = some (.slice a2 n2 c2) := KY_50.out.c 1 rfl
  have xY2 : u5.cell? ⟨u22.heap.size, 2, none⟩ = some (.int .i64 (nrI er (tgN g ⟨ck, cz⟩))) := KY_50.out.c 2 rfl
  have zY : u22.heap.size < u5.heap.size := KY_50.out.2.2
  have z2Y : u22.heap.size < u5.heap.size + 1 := by omega
  go_wp2_with fail
  refine (same_yes _ _ _ _ _ _ HS1.out HS2.out).mono ?_
  rintro e u6 ⟨rfl, b6⟩
  clear HS1 HS2
  clear xX0 xX1 xX2 zX z2X xY0 xY1 xY2 zY z2Y
  have KA_52 := Lib.hid (KA_46.out.step b6)
  clear KA_46
  have KV_53 := Lib.hid (KV_47.out.step b6)
  clear KV_47
  have KK_54 := Lib.hid (KK_48.out.step b6)
  clear KK_48
  have KX_55 := Lib.hid (KX_49.out.step b6)
  clear KX_49
  have KY_56 := Lib.hid (KY_50.out.step b6)
  clear KY_50
  have HB57 := Lib.hid (keep2 b6 HB51.out)
  clear HB51 b6
  go_wp2_with fail
  obtain ⟨G9, hG9⟩ : ∃ b, gnB key i g l = b := ⟨_, rfl⟩
  have HG9 := Lib.hid hG9
  clear hG9
  obtain ⟨CH, hCH⟩ : ∃ b, chB key i g l = b := ⟨_, rfl⟩
  have HCH := Lib.hid hCH
  clear hCH
  have HS := Lib.hid (H.out.step HB57.out)
  obtain ⟨lit, hlit⟩ : ∃ lit : (Nat → Value) → Act, lit = fun vs => { tmps := List.toArray (Value.int IntKind.i64 key :: Value.int IntKind.i64 id :: Value.agg #[Value.int IntKind.i64 i, Value.slice a l.length cap, Value.int IntKind.i64 g] :: Value.agg #[Value.int IntKind.i64 ck, Value.int IntKind.i64 cz] :: Value.agg #[Value.int IntKind.i64 r, Value.int IntKind.i64 v, Value.int IntKind.i64 x, Value.int IntKind.i64 t] :: Value.int IntKind.i64 u :: undef :: undef :: Value.pointer (some { block := w.heap.size, off := 0 }) :: Value.pointer (some { block := w.heap.size + 1, off := 0 }) :: Value.pointer (some { block := w.heap.size + 1 + 1, off := 0 }) :: undef :: Value.bool false :: Value.bool true :: Value.pointer (some { block := u21.heap.size, off := 0 }) :: Value.int IntKind.i64 er :: Value.pointer (some { block := u22.heap.size, off := 0 }) :: Value.int IntKind.i64 er :: Value.bool true :: vs 16 :: Value.bool true :: Value.pointer (some { block := w.heap.size, off := 1 }) :: Value.slice a l.length cap :: Value.int IntKind.i64 (l.length : Int) :: Value.bool false :: undef :: Value.tuple #[Value.agg #[Value.int IntKind.i64 (nrI er i), Value.slice a1 n1 c1, Value.int IntKind.i64 (nrI er (tgN g { k := ck, v := cz }))], Value.int IntKind.i64 er] :: Value.agg #[Value.int IntKind.i64 i, Value.slice a l.length cap, Value.int IntKind.i64 g] :: Value.agg #[Value.int IntKind.i64 ck, Value.int IntKind.i64 cz] :: Value.tuple #[Value.agg #[Value.int IntKind.i64 (nrI er i), Value.slice a1 n1 c1, Value.int IntKind.i64 (nrI er (tgN g { k := ck, v := cz }))], Value.int IntKind.i64 er] :: Value.agg #[Value.int IntKind.i64 (nrI er i), Value.slice a1 n1 c1, Value.int IntKind.i64 (nrI er (tgN g { k := ck, v := cz }))] :: Value.int IntKind.i64 er :: Value.tuple #[Value.agg #[Value.int IntKind.i64 (nrI er i), Value.slice a2 n2 c2, Value.int IntKind.i64 (nrI er (tgN g { k := ck, v := cz }))], Value.int IntKind.i64 er] :: Value.agg #[Value.int IntKind.i64 i, Value.slice a l.length cap, Value.int IntKind.i64 g] :: Value.agg #[Value.int IntKind.i64 ck, Value.int IntKind.i64 cz] :: Value.tuple #[Value.agg #[Value.int IntKind.i64 (nrI er i), Value.slice a2 n2 c2, Value.int IntKind.i64 (nrI er (tgN g { k := ck, v := cz }))], Value.int IntKind.i64 er] :: Value.agg #[Value.int IntKind.i64 (nrI er i), Value.slice a2 n2 c2, Value.int IntKind.i64 (nrI er (tgN g { k := ck, v := cz }))] :: Value.int IntKind.i64 er :: Value.int IntKind.i64 key :: Value.int IntKind.i64 id :: Value.agg #[Value.int IntKind.i64 i0, Value.slice none 0 0, Value.int IntKind.i64 t0] :: Value.int IntKind.i64 key :: Value.int IntKind.i64 id :: Value.agg #[Value.int IntKind.i64 i0, Value.slice none 0 0, Value.int IntKind.i64 t0] :: Value.bool true :: Value.bool true :: Value.agg #[Value.int IntKind.i64 (nrI er i), Value.slice a1 n1 c1, Value.int IntKind.i64 (nrI er (tgN g { k := ck, v := cz }))] :: Value.agg #[Value.int IntKind.i64 (nrI er i), Value.slice a2 n2 c2, Value.int IntKind.i64 (nrI er (tgN g { k := ck, v := cz }))] :: Value.bool true :: Value.bool true :: Value.bool true :: Value.int IntKind.i64 er :: Value.int IntKind.i64 er :: Value.bool true :: Value.bool true :: vs 0 :: vs 1 :: vs 2 :: vs 3 :: vs 4 :: vs 5 :: vs 6 :: vs 7 :: vs 8 :: vs 9 :: vs 10 :: vs 11 :: vs 12 :: vs 13 :: vs 14 :: vs 15 :: undef :: undef :: undef :: undef :: undef :: undef :: undef :: undef :: undef :: undef :: undef :: undef :: undef :: undef :: undef :: undef :: undef :: undef :: undef :: undef :: undef :: undef :: undef :: undef :: undef :: undef :: undef :: undef :: undef :: undef :: undef :: []), defers := [] } := ⟨_, rfl⟩
  have HLIT := Lib.hid hlit
  clear hlit
  obtain ⟨val, hval⟩ : ∃ val : List Value, val = [.int .i64 key, .agg #[.int .i64 i, .slice a l.length cap, .int .i64 g], .bool G9, .int .i64 key, .agg #[.int .i64 i, .slice a l.length cap, .int .i64 g], .bool G9, .bool true, .bool true, .int .i64 key, .agg #[.int .i64 i, .slice a l.length cap, .int .i64 g], undef, .int .i64 key, .agg #[.int .i64 i, .slice a l.length cap, .int .i64 g], undef, .bool true, .bool true, .bool true] := ⟨_, rfl⟩
  have E0 := Lib.hid (show val.getD 0 undef = .int .i64 key by rw [hval]; rfl)
  have E1 := Lib.hid (show val.getD 1 undef = .agg #[.int .i64 i, .slice a l.length cap, .int .i64 g] by rw [hval]; rfl)
  have E2 := Lib.hid (show val.getD 2 undef = .bool G9 by rw [hval]; rfl)
  have E3 := Lib.hid (show val.getD 3 undef = .int .i64 key by rw [hval]; rfl)
  have E4 := Lib.hid (show val.getD 4 undef = .agg #[.int .i64 i, .slice a l.length cap, .int .i64 g] by rw [hval]; rfl)
  have E5 := Lib.hid (show val.getD 5 undef = .bool G9 by rw [hval]; rfl)
  have E6 := Lib.hid (show val.getD 6 undef = .bool true by rw [hval]; rfl)
  have E7 := Lib.hid (show val.getD 7 undef = .bool true by rw [hval]; rfl)
  have E8 := Lib.hid (show val.getD 8 undef = .int .i64 key by rw [hval]; rfl)
  have E9 := Lib.hid (show val.getD 9 undef = .agg #[.int .i64 i, .slice a l.length cap, .int .i64 g] by rw [hval]; rfl)
  have E11 := Lib.hid (show val.getD 11 undef = .int .i64 key by rw [hval]; rfl)
  have E12 := Lib.hid (show val.getD 12 undef = .agg #[.int .i64 i, .slice a l.length cap, .int .i64 g] by rw [hval]; rfl)
  have E14 := Lib.hid (show val.getD 14 undef = .bool true by rw [hval]; rfl)
  have E15 := Lib.hid (show val.getD 15 undef = .bool true by rw [hval]; rfl)
  have E16 := Lib.hid (show val.getD 16 undef = .bool true by rw [hval]; rfl)
  clear hval
  obtain ⟨G, hG0⟩ : ∃ G : Nat → Value → World → Prop, G = (fun i v w => (i = 10 → IntsAt w v CH) ∧ (i = 13 → IntsAt w v CH) ∧ (i ≠ 10 → i ≠ 13 → v = val.getD i undef)) := ⟨_, rfl⟩
  have HG := Lib.hid hG0
  clear hG0
  refine region_inv (RS lit u6 G) (by kernel_rfl) (by decide +kernel) ?_ ?_ ?_
  · exact ⟨fun i => ([undef, undef, undef, undef, undef, undef, undef, undef, undef, undef, undef, undef, undef, undef, undef, undef, undef] : List Value).getD i undef, (by rw [HLIT.out]; rfl), below_drew _ _, fun i h => by cases h⟩
  · refine ⟨?_, ?_, ?_, ?_, ?_, ?_, ?_, ?_, ?_, ?_, ?_, ?_, ?_, ?_, ?_, ?_, ?_, trivial⟩
    · intro bf ac wv hfb haf hJ K' hK
      obtain ⟨vs, rfl, hM, j4⟩ := hJ
      replace hK := Lib.hid hK
      replace hM := Lib.hid hM
      rw [HG.out] at j4
      replace j4 := Lib.hid j4
      clear haf hfb
      rw [HLIT.out]
      go_simp
      exact hK.out _ _ (RS.next (wv := wv) (vs := vs) 0 (x := .int .i64 key) (by rw [HLIT.out]; rfl) (by rw [HG.out]; exact j4.out) hM.out (by rw [HG.out]; exact fun _ _ h => h) (by rw [HG.out]; exact ⟨fun h => absurd h (by decide), fun h => absurd h (by decide), fun _ _ => E0.out.symm⟩))
    · intro bf ac wv hfb haf hJ K' hK
      obtain ⟨vs, rfl, hM, j4⟩ := hJ
      replace hK := Lib.hid hK
      replace hM := Lib.hid hM
      rw [HG.out] at j4
      replace j4 := Lib.hid j4
      clear haf hfb
      have K1 := KA_52.out.step hM.out
      have Ax0 := K1.c 0 rfl
      have Ax1 := K1.c 1 rfl
      have Ax2 := K1.c 2 rfl
      have Axz := K1.2.2
      clear K1
      rw [HLIT.out]
      go_simp
      exact hK.out _ _ (RS.next (wv := wv) (vs := vs) 1 (x := .agg #[.int .i64 i, .slice a l.length cap, .int .i64 g]) (by rw [HLIT.out]; rfl) (by rw [HG.out]; exact j4.out) hM.out (by rw [HG.out]; exact fun _ _ h => h) (by rw [HG.out]; exact ⟨fun h => absurd h (by decide), fun h => absurd h (by decide), fun _ _ => E1.out.symm⟩))
    · intro bf ac wv hfb haf hJ K' hK
      obtain ⟨vs, rfl, hM, j4⟩ := hJ
      replace hK := Lib.hid hK
      replace hM := Lib.hid hM
      rw [HG.out] at j4
      simp [Region.binds] at haf
      have e0 := ((j4 0 (by simp [haf])).2.2 (by decide) (by decide)).trans E0.out
      have e1 := ((j4 1 (by simp [haf])).2.2 (by decide) (by decide)).trans E1.out
      replace j4 := Lib.hid j4
      clear haf hfb
      rw [HLIT.out]
      go_simp
      go_at_call 15
      refine (genuine_any key i g _ l _ (HS.out.step hM.out)).mono ?_
      rintro e w4 ⟨rfl, b4⟩
      rw [HG9.out]
      exact hK.out _ _ (RS.next (wv := wv) (vs := vs) 2 (x := .bool G9) (by rw [HLIT.out]; simp only [upv, e0, e1, Nat.reduceBEq, cond_true, cond_false]) (by rw [HG.out]; exact j4.out) (keep2 b4 hM.out) (by rw [HG.out]; exact fun k v h => ⟨fun q => (h.1 q).step b4, fun q => (h.2.1 q).step b4, h.2.2⟩) (by rw [HG.out]; exact ⟨fun h => absurd h (by decide), fun h => absurd h (by decide), fun _ _ => E2.out.symm⟩))
    · intro bf ac wv hfb haf hJ K' hK
      obtain ⟨vs, rfl, hM, j4⟩ := hJ
      replace hK := Lib.hid hK
      replace hM := Lib.hid hM
      rw [HG.out] at j4
      replace j4 := Lib.hid j4
      clear haf hfb
      rw [HLIT.out]
      go_simp
      exact hK.out _ _ (RS.next (wv := wv) (vs := vs) 3 (x := .int .i64 key) (by rw [HLIT.out]; rfl) (by rw [HG.out]; exact j4.out) hM.out (by rw [HG.out]; exact fun _ _ h => h) (by rw [HG.out]; exact ⟨fun h => absurd h (by decide), fun h => absurd h (by decide), fun _ _ => E3.out.symm⟩))
    · intro bf ac wv hfb haf hJ K' hK
      obtain ⟨vs, rfl, hM, j4⟩ := hJ
      replace hK := Lib.hid hK
      replace hM := Lib.hid hM
      rw [HG.out] at j4
      replace j4 := Lib.hid j4
      clear haf hfb
      have K1 := KA_52.out.step hM.out
      have Ax0 := K1.c 0 rfl
      have Ax1 := K1.c 1 rfl
      have Ax2 := K1.c 2 rfl
      have Axz := K1.2.2
      clear K1
      rw [HLIT.out]
      go_simp
      exact hK.out _ _ (RS.next (wv := wv) (vs := vs) 4 (x := .agg #[.int .i64 i, .slice a l.length cap, .int .i64 g]) (by rw [HLIT.out]; rfl) (by rw [HG.out]; exact j4.out) hM.out (by rw [HG.out]; exact fun _ _ h => h) (by rw [HG.out]; exact ⟨fun h => absurd h (by decide), fun h => absurd h (by decide), fun _ _ => E4.out.symm⟩))
    · intro bf ac wv hfb haf hJ K' hK
      obtain ⟨vs, rfl, hM, j4⟩ := hJ
      replace hK := Lib.hid hK
      replace hM := Lib.hid hM
      rw [HG.out] at j4
      simp [Region.binds] at haf
      have e3 := ((j4 3 (by simp [haf])).2.2 (by decide) (by decide)).trans E3.out
      have e4 := ((j4 4 (by simp [haf])).2.2 (by decide) (by decide)).trans E4.out
      replace j4 := Lib.hid j4
      clear haf hfb
      rw [HLIT.out]
      go_simp
      go_at_call 16
      refine (rgenuine_any key i g _ l _ (HS.out.step hM.out)).mono ?_
      rintro e w4 ⟨rfl, b4⟩
      rw [HG9.out]
      exact hK.out _ _ (RS.next (wv := wv) (vs := vs) 5 (x := .bool G9) (by rw [HLIT.out]; simp only [upv, e3, e4, Nat.reduceBEq, cond_true, cond_false]) (by rw [HG.out]; exact j4.out) (keep2 b4 hM.out) (by rw [HG.out]; exact fun k v h => ⟨fun q => (h.1 q).step b4, fun q => (h.2.1 q).step b4, h.2.2⟩) (by rw [HG.out]; exact ⟨fun h => absurd h (by decide), fun h => absurd h (by decide), fun _ _ => E5.out.symm⟩))
    · intro bf ac wv hfb haf hJ K' hK
      obtain ⟨vs, rfl, hM, j4⟩ := hJ
      replace hK := Lib.hid hK
      replace hM := Lib.hid hM
      rw [HG.out] at j4
      simp [Region.binds] at haf
      have e2 := ((j4 2 (by simp [haf])).2.2 (by decide) (by decide)).trans E2.out
      have e5 := ((j4 5 (by simp [haf])).2.2 (by decide) (by decide)).trans E5.out
      replace j4 := Lib.hid j4
      clear haf hfb
      rw [HLIT.out]
      go_simp
      exact hK.out _ _ (RS.next (wv := wv) (vs := vs) 6 (x := .bool true) (by rw [HLIT.out]; simp only [upv, e2, e5, Nat.reduceBEq, cond_true, cond_false]) (by rw [HG.out]; exact j4.out) hM.out (by rw [HG.out]; exact fun _ _ h => h) (by rw [HG.out]; exact ⟨fun h => absurd h (by decide), fun h => absurd h (by decide), fun _ _ => E6.out.symm⟩))
    · intro bf ac wv hfb haf hJ K' hK
      obtain ⟨vs, rfl, hM, j4⟩ := hJ
      replace hK := Lib.hid hK
      replace hM := Lib.hid hM
      rw [HG.out] at j4
      simp [Region.binds] at haf
      have e6 := ((j4 6 (by simp [haf])).2.2 (by decide) (by decide)).trans E6.out
      replace j4 := Lib.hid j4
      clear haf hfb
      rw [HLIT.out]
      go_simp
      exact hK.out _ _ (RS.next (wv := wv) (vs := vs) 7 (x := .bool true) (by rw [HLIT.out]; simp only [upv, e6, Nat.reduceBEq, cond_true, cond_false]) (by rw [HG.out]; exact j4.out) hM.out (by rw [HG.out]; exact fun _ _ h => h) (by rw [HG.out]; exact ⟨fun h => absurd h (by decide), fun h => absurd h (by decide), fun _ _ => E7.out.symm⟩))
    · intro bf ac wv hfb haf hJ K' hK
      obtain ⟨vs, rfl, hM, j4⟩ := hJ
      replace hK := Lib.hid hK
      replace hM := Lib.hid hM
      rw [HG.out] at j4
      simp [Region.binds] at haf
      have e7 := ((j4 7 (by simp [haf])).2.2 (by decide) (by decide)).trans E7.out
      replace j4 := Lib.hid j4
      clear haf hfb
      rw [HLIT.out]
      go_simp
      exact hK.out _ _ (RS.next (wv := wv) (vs := vs) 8 (x := .int .i64 key) (by rw [HLIT.out]; simp only [upv, e7, Nat.reduceBEq, cond_true, cond_false]) (by rw [HG.out]; exact j4.out) hM.out (by rw [HG.out]; exact fun _ _ h => h) (by rw [HG.out]; exact ⟨fun h => absurd h (by decide), fun h => absurd h (by decide), fun _ _ => E8.out.symm⟩))
    · intro bf ac wv hfb haf hJ K' hK
      obtain ⟨vs, rfl, hM, j4⟩ := hJ
      replace hK := Lib.hid hK
      replace hM := Lib.hid hM
      rw [HG.out] at j4
      simp [Region.binds] at haf
      have e7 := ((j4 7 (by simp [haf])).2.2 (by decide) (by decide)).trans E7.out
      replace j4 := Lib.hid j4
      clear haf hfb
      have K1 := KA_52.out.step hM.out
      have Ax0 := K1.c 0 rfl
      have Ax1 := K1.c 1 rfl
      have Ax2 := K1.c 2 rfl
      have Axz := K1.2.2
      clear K1
      rw [HLIT.out]
      go_simp
      exact hK.out _ _ (RS.next (wv := wv) (vs := vs) 9 (x := .agg #[.int .i64 i, .slice a l.length cap, .int .i64 g]) (by rw [HLIT.out]; simp only [upv, e7, Nat.reduceBEq, cond_true, cond_false]) (by rw [HG.out]; exact j4.out) hM.out (by rw [HG.out]; exact fun _ _ h => h) (by rw [HG.out]; exact ⟨fun h => absurd h (by decide), fun h => absurd h (by decide), fun _ _ => E9.out.symm⟩))
    · intro bf ac wv hfb haf hJ K' hK
      obtain ⟨vs, rfl, hM, j4⟩ := hJ
      replace hK := Lib.hid hK
      replace hM := Lib.hid hM
      rw [HG.out] at j4
      simp [Region.binds] at haf
      have e7 := ((j4 7 (by simp [haf])).2.2 (by decide) (by decide)).trans E7.out
      have e8 := ((j4 8 (by simp [haf])).2.2 (by decide) (by decide)).trans E8.out
      have e9 := ((j4 9 (by simp [haf])).2.2 (by decide) (by decide)).trans E9.out
      replace j4 := Lib.hid j4
      clear haf hfb
      rw [HLIT.out]
      go_simp
      go_at_call 18
      refine (chain2_any key i g _ l _ (HS.out.step hM.out)).mono ?_
      rintro e w4 ⟨u5x, rfl, hci, b4⟩
      rw [HCH.out] at hci
      exact hK.out _ _ (RS.next (wv := wv) (vs := vs) 10 (x := u5x) (by rw [HLIT.out]; simp only [upv, e7, e8, e9, Nat.reduceBEq, cond_true, cond_false]) (by rw [HG.out]; exact j4.out) (keep2 b4 hM.out) (by rw [HG.out]; exact fun k v h => ⟨fun q => (h.1 q).step b4, fun q => (h.2.1 q).step b4, h.2.2⟩) (by rw [HG.out]; exact ⟨fun _ => hci, fun h => absurd h (by decide), fun h10 => absurd rfl h10⟩))
    · intro bf ac wv hfb haf hJ K' hK
      obtain ⟨vs, rfl, hM, j4⟩ := hJ
      replace hK := Lib.hid hK
      replace hM := Lib.hid hM
      rw [HG.out] at j4
      simp [Region.binds] at haf
      have e7 := ((j4 7 (by simp [haf])).2.2 (by decide) (by decide)).trans E7.out
      replace j4 := Lib.hid j4
      clear haf hfb
      rw [HLIT.out]
      go_simp
      exact hK.out _ _ (RS.next (wv := wv) (vs := vs) 11 (x := .int .i64 key) (by rw [HLIT.out]; simp only [upv, e7, Nat.reduceBEq, cond_true, cond_false]) (by rw [HG.out]; exact j4.out) hM.out (by rw [HG.out]; exact fun _ _ h => h) (by rw [HG.out]; exact ⟨fun h => absurd h (by decide), fun h => absurd h (by decide), fun _ _ => E11.out.symm⟩))
    · intro bf ac wv hfb haf hJ K' hK
      obtain ⟨vs, rfl, hM, j4⟩ := hJ
      replace hK := Lib.hid hK
      replace hM := Lib.hid hM
      rw [HG.out] at j4
      simp [Region.binds] at haf
      have e7 := ((j4 7 (by simp [haf])).2.2 (by decide) (by decide)).trans E7.out
      replace j4 := Lib.hid j4
      clear haf hfb
      have K1 := KA_52.out.step hM.out
      have Ax0 := K1.c 0 rfl
      have Ax1 := K1.c 1 rfl
      have Ax2 := K1.c 2 rfl
      have Axz := K1.2.2
      clear K1
      rw [HLIT.out]
      go_simp
      exact hK.out _ _ (RS.next (wv := wv) (vs := vs) 12 (x := .agg #[.int .i64 i, .slice a l.length cap, .int .i64 g]) (by rw [HLIT.out]; simp only [upv, e7, Nat.reduceBEq, cond_true, cond_false]) (by rw [HG.out]; exact j4.out) hM.out (by rw [HG.out]; exact fun _ _ h => h) (by rw [HG.out]; exact ⟨fun h => absurd h (by decide), fun h => absurd h (by decide), fun _ _ => E12.out.symm⟩))
    · intro bf ac wv hfb haf hJ K' hK
      obtain ⟨vs, rfl, hM, j4⟩ := hJ
      replace hK := Lib.hid hK
      replace hM := Lib.hid hM
      rw [HG.out] at j4
      simp [Region.binds] at haf
      have e7 := ((j4 7 (by simp [haf])).2.2 (by decide) (by decide)).trans E7.out
      have e11 := ((j4 11 (by simp [haf])).2.2 (by decide) (by decide)).trans E11.out
      have e12 := ((j4 12 (by simp [haf])).2.2 (by decide) (by decide)).trans E12.out
      replace j4 := Lib.hid j4
      clear haf hfb
      rw [HLIT.out]
      go_simp
      go_at_call 19
      refine (rchain_any key i g _ l _ (HS.out.step hM.out)).mono ?_
      rintro e w4 ⟨u5x, rfl, hci, b4⟩
      rw [HCH.out] at hci
      exact hK.out _ _ (RS.next (wv := wv) (vs := vs) 13 (x := u5x) (by rw [HLIT.out]; simp only [upv, e7, e11, e12, Nat.reduceBEq, cond_true, cond_false]) (by rw [HG.out]; exact j4.out) (keep2 b4 hM.out) (by rw [HG.out]; exact fun k v h => ⟨fun q => (h.1 q).step b4, fun q => (h.2.1 q).step b4, h.2.2⟩) (by rw [HG.out]; exact ⟨fun h => absurd h (by decide), fun _ => hci, fun h10 => fun h13 => absurd rfl h13⟩))
    · intro bf ac wv hfb haf hJ K' hK
      obtain ⟨vs, rfl, hM, j4⟩ := hJ
      replace hK := Lib.hid hK
      replace hM := Lib.hid hM
      rw [HG.out] at j4
      simp [Region.binds] at haf
      have e7 := ((j4 7 (by simp [haf])).2.2 (by decide) (by decide)).trans E7.out
      have e10 := (j4 10 (by simp [haf])).1 rfl
      have e13 := (j4 13 (by simp [haf])).2.1 rfl
      replace j4 := Lib.hid j4
      clear haf hfb
      have q10 := Lib.hid e10
      have q13 := Lib.hid e13
      clear e10 e13
      rw [HLIT.out]
      go_simp
      go_at_call 17
      refine (ints_any _ _ CH CH _ q10.out q13.out).mono ?_
      rintro e w4 ⟨rfl, n9, rfl⟩
      rw [decide_eq_true (rfl : CH = CH)]
      have b4 : Below wv.heap.size wv (wv.drewN n9) := below_drewN' _ _ _
      exact hK.out _ _ (RS.next (wv := wv) (vs := vs) 14 (x := .bool true) (by rw [HLIT.out]; simp only [upv, e7, Nat.reduceBEq, cond_true, cond_false]) (by rw [HG.out]; exact j4.out) (keep2 b4 hM.out) (by rw [HG.out]; exact fun k v h => ⟨fun q => (h.1 q).step b4, fun q => (h.2.1 q).step b4, h.2.2⟩) (by rw [HG.out]; exact ⟨fun h => absurd h (by decide), fun h => absurd h (by decide), fun _ _ => E14.out.symm⟩))
    · intro bf ac wv hfb haf hJ K' hK
      obtain ⟨vs, rfl, hM, j4⟩ := hJ
      replace hK := Lib.hid hK
      replace hM := Lib.hid hM
      rw [HG.out] at j4
      simp [Region.binds] at haf
      have e7 := ((j4 7 (by simp [haf])).2.2 (by decide) (by decide)).trans E7.out
      have e14 := ((j4 14 (by simp [haf])).2.2 (by decide) (by decide)).trans E14.out
      replace j4 := Lib.hid j4
      clear haf hfb
      rw [HLIT.out]
      go_simp
      exact hK.out _ _ (RS.next (wv := wv) (vs := vs) 15 (x := .bool true) (by rw [HLIT.out]; simp only [upv, e7, e14, Nat.reduceBEq, cond_true, cond_false]) (by rw [HG.out]; exact j4.out) hM.out (by rw [HG.out]; exact fun _ _ h => h) (by rw [HG.out]; exact ⟨fun h => absurd h (by decide), fun h => absurd h (by decide), fun _ _ => E15.out.symm⟩))
    · intro bf ac wv hfb haf hJ K' hK
      obtain ⟨vs, rfl, hM, j4⟩ := hJ
      replace hK := Lib.hid hK
      replace hM := Lib.hid hM
      rw [HG.out] at j4
      simp [Region.binds] at haf
      have e15 := ((j4 15 (by simp [haf])).2.2 (by decide) (by decide)).trans E15.out
      replace j4 := Lib.hid j4
      clear haf hfb
      rw [HLIT.out]
      go_simp
      exact hK.out _ _ (RS.next (wv := wv) (vs := vs) 16 (x := .bool true) (by rw [HLIT.out]; simp only [upv, e15, Nat.reduceBEq, cond_true, cond_false]) (by rw [HG.out]; exact j4.out) hM.out (by rw [HG.out]; exact fun _ _ h => h) (by rw [HG.out]; exact ⟨fun h => absurd h (by decide), fun h => absurd h (by decide), fun _ _ => E16.out.symm⟩))
  · intro bf ac wv hall hJ
    obtain ⟨vs, rfl, hM, j4⟩ := hJ
    rw [HG.out] at j4
    have e16 := ((j4 16 (hall 16 (by decide))).2.2 (by decide) (by decide)).trans E16.out
    replace hM := Lib.hid hM
    clear hall j4
    rw [HLIT.out]
    dsimp only
    rw [e16]
    clear e16
    obtain ⟨us, hus⟩ : ∃ us, us = vs := ⟨_, rfl⟩
    rw [← hus]
    clear hus
    obtain ⟨W9, hW9⟩ : ∃ W, wv = W := ⟨_, rfl⟩
    rw [hW9] at hM ⊢
    clear hW9
    have LA := Lib.hid (KA_52.out.step hM.out)
    have LK := Lib.hid (KK_54.out.step hM.out)
    replace HS := Lib.hid (HS.out.step hM.out)
    have HBX := Lib.hid (keep2 hM.out HB57.out)
    clear hM HG9 HCH HB57 KA_52 KV_53 KK_54 KX_55 KY_56 E0 E1 E2 E3 E4 E5 E6 E7 E8 E9 E11 E12 E14 E15 E16 HLIT HG
    go_wp2_with fail
    obtain ⟨EP, hEP⟩ : ∃ b, pmE i g l r v x t u = b := ⟨_, rfl⟩
    have HEP := Lib.hid hEP
    clear hEP
    obtain ⟨EK, hEK⟩ : ∃ b, ckV key i g l r v x t u = b := ⟨_, rfl⟩
    have HEK := Lib.hid hEK
    clear hEK
    obtain ⟨lit, hlit⟩ : ∃ lit : (Nat → Value) → Act, lit = fun vs => { tmps := List.toArray (Value.int IntKind.i64 key :: Value.int IntKind.i64 id :: Value.agg #[Value.int IntKind.i64 i, Value.slice a l.length cap, Value.int IntKind.i64 g] :: Value.agg #[Value.int IntKind.i64 ck, Value.int IntKind.i64 cz] :: Value.agg #[Value.int IntKind.i64 r, Value.int IntKind.i64 v, Value.int IntKind.i64 x, Value.int IntKind.i64 t] :: Value.int IntKind.i64 u :: undef :: undef :: Value.pointer (some { block := w.heap.size, off := 0 }) :: Value.pointer (some { block := w.heap.size + 1, off := 0 }) :: Value.pointer (some { block := w.heap.size + 1 + 1, off := 0 }) :: undef :: vs 31 :: Value.bool true :: Value.pointer (some { block := u21.heap.size, off := 0 }) :: Value.int IntKind.i64 er :: Value.pointer (some { block := u22.heap.size, off := 0 }) :: Value.int IntKind.i64 er :: Value.bool true :: Value.bool true :: Value.bool true :: Value.pointer (some { block := w.heap.size, off := 1 }) :: Value.slice a l.length cap :: Value.int IntKind.i64 (l.length : Int) :: Value.bool false :: undef :: Value.tuple #[Value.agg #[Value.int IntKind.i64 (nrI er i), Value.slice a1 n1 c1, Value.int IntKind.i64 (nrI er (tgN g { k := ck, v := cz }))], Value.int IntKind.i64 er] :: Value.agg #[Value.int IntKind.i64 i, Value.slice a l.length cap, Value.int IntKind.i64 g] :: Value.agg #[Value.int IntKind.i64 ck, Value.int IntKind.i64 cz] :: Value.tuple #[Value.agg #[Value.int IntKind.i64 (nrI er i), Value.slice a1 n1 c1, Value.int IntKind.i64 (nrI er (tgN g { k := ck, v := cz }))], Value.int IntKind.i64 er] :: Value.agg #[Value.int IntKind.i64 (nrI er i), Value.slice a1 n1 c1, Value.int IntKind.i64 (nrI er (tgN g { k := ck, v := cz }))] :: Value.int IntKind.i64 er :: Value.tuple #[Value.agg #[Value.int IntKind.i64 (nrI er i), Value.slice a2 n2 c2, Value.int IntKind.i64 (nrI er (tgN g { k := ck, v := cz }))], Value.int IntKind.i64 er] :: Value.agg #[Value.int IntKind.i64 i, Value.slice a l.length cap, Value.int IntKind.i64 g] :: Value.agg #[Value.int IntKind.i64 ck, Value.int IntKind.i64 cz] :: Value.tuple #[Value.agg #[Value.int IntKind.i64 (nrI er i), Value.slice a2 n2 c2, Value.int IntKind.i64 (nrI er (tgN g { k := ck, v := cz }))], Value.int IntKind.i64 er] :: Value.agg #[Value.int IntKind.i64 (nrI er i), Value.slice a2 n2 c2, Value.int IntKind.i64 (nrI er (tgN g { k := ck, v := cz }))] :: Value.int IntKind.i64 er :: Value.int IntKind.i64 key :: Value.int IntKind.i64 id :: Value.agg #[Value.int IntKind.i64 i0, Value.slice none 0 0, Value.int IntKind.i64 t0] :: Value.int IntKind.i64 key :: Value.int IntKind.i64 id :: Value.agg #[Value.int IntKind.i64 i0, Value.slice none 0 0, Value.int IntKind.i64 t0] :: Value.bool true :: Value.bool true :: Value.agg #[Value.int IntKind.i64 (nrI er i), Value.slice a1 n1 c1, Value.int IntKind.i64 (nrI er (tgN g { k := ck, v := cz }))] :: Value.agg #[Value.int IntKind.i64 (nrI er i), Value.slice a2 n2 c2, Value.int IntKind.i64 (nrI er (tgN g { k := ck, v := cz }))] :: Value.bool true :: Value.bool true :: Value.bool true :: Value.int IntKind.i64 er :: Value.int IntKind.i64 er :: Value.bool true :: Value.bool true :: us 0 :: us 1 :: us 2 :: us 3 :: us 4 :: us 5 :: us 6 :: us 7 :: us 8 :: us 9 :: us 10 :: us 11 :: us 12 :: us 13 :: us 14 :: us 15 :: vs 0 :: vs 1 :: vs 2 :: vs 3 :: vs 4 :: vs 5 :: vs 6 :: vs 7 :: vs 8 :: vs 9 :: vs 10 :: vs 11 :: vs 12 :: vs 13 :: vs 14 :: vs 15 :: vs 16 :: vs 17 :: vs 18 :: vs 19 :: vs 20 :: vs 21 :: vs 22 :: vs 23 :: vs 24 :: vs 25 :: vs 26 :: vs 27 :: vs 28 :: vs 29 :: vs 30 :: []), defers := [] } := ⟨_, rfl⟩
    have HLIT := Lib.hid hlit
    clear hlit
    obtain ⟨val, hval⟩ : ∃ val : List Value, val = [.bool true, .bool true, .bool true, .bool true, .bool true, .bool true, .bool true, .bool true, .agg #[.int .i64 i, .slice a l.length cap, .int .i64 g], .agg #[.int .i64 r, .int .i64 v, .int .i64 x, .int .i64 t], .int .i64 u, .int .i64 EP, .agg #[.int .i64 i, .slice a l.length cap, .int .i64 g], .agg #[.int .i64 r, .int .i64 v, .int .i64 x, .int .i64 t], .int .i64 u, .int .i64 EP, .bool true, .bool true, .bool true, .int .i64 key, .agg #[.int .i64 i, .slice a l.length cap, .int .i64 g], .agg #[.int .i64 r, .int .i64 v, .int .i64 x, .int .i64 t], .int .i64 u, .int .i64 EK, .int .i64 key, .agg #[.int .i64 i, .slice a l.length cap, .int .i64 g], .agg #[.int .i64 r, .int .i64 v, .int .i64 x, .int .i64 t], .int .i64 u, .int .i64 EK, .bool true, .bool true, .bool true] := ⟨_, rfl⟩
    have E0 := Lib.hid (show val.getD 0 undef = .bool true by rw [hval]; rfl)
    have E1 := Lib.hid (show val.getD 1 undef = .bool true by rw [hval]; rfl)
    have E2 := Lib.hid (show val.getD 2 undef = .bool true by rw [hval]; rfl)
    have E3 := Lib.hid (show val.getD 3 undef = .bool true by rw [hval]; rfl)
    have E4 := Lib.hid (show val.getD 4 undef = .bool true by rw [hval]; rfl)
    have E5 := Lib.hid (show val.getD 5 undef = .bool true by rw [hval]; rfl)
    have E6 := Lib.hid (show val.getD 6 undef = .bool true by rw [hval]; rfl)
    have E7 := Lib.hid (show val.getD 7 undef = .bool true by rw [hval]; rfl)
    have E8 := Lib.hid (show val.getD 8 undef = .agg #[.int .i64 i, .slice a l.length cap, .int .i64 g] by rw [hval]; rfl)
    have E9 := Lib.hid (show val.getD 9 undef = .agg #[.int .i64 r, .int .i64 v, .int .i64 x, .int .i64 t] by rw [hval]; rfl)
    have E10 := Lib.hid (show val.getD 10 undef = .int .i64 u by rw [hval]; rfl)
    have E11 := Lib.hid (show val.getD 11 undef = .int .i64 EP by rw [hval]; rfl)
    have E12 := Lib.hid (show val.getD 12 undef = .agg #[.int .i64 i, .slice a l.length cap, .int .i64 g] by rw [hval]; rfl)
    have E13 := Lib.hid (show val.getD 13 undef = .agg #[.int .i64 r, .int .i64 v, .int .i64 x, .int .i64 t] by rw [hval]; rfl)
    have E14 := Lib.hid (show val.getD 14 undef = .int .i64 u by rw [hval]; rfl)
    have E15 := Lib.hid (show val.getD 15 undef = .int .i64 EP by rw [hval]; rfl)
    have E16 := Lib.hid (show val.getD 16 undef = .bool true by rw [hval]; rfl)
    have E17 := Lib.hid (show val.getD 17 undef = .bool true by rw [hval]; rfl)
    have E18 := Lib.hid (show val.getD 18 undef = .bool true by rw [hval]; rfl)
    have E19 := Lib.hid (show val.getD 19 undef = .int .i64 key by rw [hval]; rfl)
    have E20 := Lib.hid (show val.getD 20 undef = .agg #[.int .i64 i, .slice a l.length cap, .int .i64 g] by rw [hval]; rfl)
    have E21 := Lib.hid (show val.getD 21 undef = .agg #[.int .i64 r, .int .i64 v, .int .i64 x, .int .i64 t] by rw [hval]; rfl)
    have E22 := Lib.hid (show val.getD 22 undef = .int .i64 u by rw [hval]; rfl)
    have E23 := Lib.hid (show val.getD 23 undef = .int .i64 EK by rw [hval]; rfl)
    have E24 := Lib.hid (show val.getD 24 undef = .int .i64 key by rw [hval]; rfl)
    have E25 := Lib.hid (show val.getD 25 undef = .agg #[.int .i64 i, .slice a l.length cap, .int .i64 g] by rw [hval]; rfl)
    have E26 := Lib.hid (show val.getD 26 undef = .agg #[.int .i64 r, .int .i64 v, .int .i64 x, .int .i64 t] by rw [hval]; rfl)
    have E27 := Lib.hid (show val.getD 27 undef = .int .i64 u by rw [hval]; rfl)
    have E28 := Lib.hid (show val.getD 28 undef = .int .i64 EK by rw [hval]; rfl)
    have E29 := Lib.hid (show val.getD 29 undef = .bool true by rw [hval]; rfl)
    have E30 := Lib.hid (show val.getD 30 undef = .bool true by rw [hval]; rfl)
    have E31 := Lib.hid (show val.getD 31 undef = .bool true by rw [hval]; rfl)
    clear hval
    obtain ⟨G, hG0⟩ : ∃ G : Nat → Value → World → Prop, G = (fun i v w => (v = val.getD i undef)) := ⟨_, rfl⟩
    have HG := Lib.hid hG0
    clear hG0
    refine region_inv (RS lit W9 G) (by kernel_rfl) (by decide +kernel) ?_ ?_ ?_
    · exact ⟨fun i => ([undef, undef, undef, undef, undef, undef, undef, undef, undef, undef, undef, undef, undef, undef, undef, undef, undef, undef, undef, undef, undef, undef, undef, undef, undef, undef, undef, undef, undef, undef, undef, Value.bool false] : List Value).getD i undef, (by rw [HLIT.out]; rfl), below_drew _ _, fun i h => by cases h⟩
    · refine ⟨?_, ?_, ?_, ?_, ?_, ?_, ?_, ?_, ?_, ?_, ?_, ?_, ?_, ?_, ?_, ?_, ?_, ?_, ?_, ?_, ?_, ?_, ?_, ?_, ?_, ?_, ?_, ?_, ?_, ?_, ?_, ?_, trivial⟩
      · intro bf ac wv hfb haf hJ K' hK
        obtain ⟨vs, rfl, hM, j4⟩ := hJ
        replace hK := Lib.hid hK
        replace hM := Lib.hid hM
        rw [HG.out] at j4
        replace j4 := Lib.hid j4
        clear haf hfb
        rw [HLIT.out]
        go_simp
        exact hK.out _ _ (RS.next (wv := wv) (vs := vs) 0 (x := .bool true) (by rw [HLIT.out]; rfl) (by rw [HG.out]; exact j4.out) hM.out (by rw [HG.out]; exact fun _ _ h => h) (by rw [HG.out]; exact E0.out.symm))
      · intro bf ac wv hfb haf hJ K' hK
        obtain ⟨vs, rfl, hM, j4⟩ := hJ
        replace hK := Lib.hid hK
        replace hM := Lib.hid hM
        rw [HG.out] at j4
        simp [Region.binds] at haf
        have e0 := ((j4 0 (by simp [haf]))).trans E0.out
        replace j4 := Lib.hid j4
        clear haf hfb
        rw [HLIT.out]
        go_simp
        exact hK.out _ _ (RS.next (wv := wv) (vs := vs) 1 (x := .bool true) (by rw [HLIT.out]; simp only [upv, e0, Nat.reduceBEq, cond_true, cond_false]) (by rw [HG.out]; exact j4.out) hM.out (by rw [HG.out]; exact fun _ _ h => h) (by rw [HG.out]; exact E1.out.symm))
      · intro bf ac wv hfb haf hJ K' hK
        obtain ⟨vs, rfl, hM, j4⟩ := hJ
        replace hK := Lib.hid hK
        replace hM := Lib.hid hM
        rw [HG.out] at j4
        simp [Region.binds] at haf
        have e1 := ((j4 1 (by simp [haf]))).trans E1.out
        replace j4 := Lib.hid j4
        clear haf hfb
        rw [HLIT.out]
        go_simp
        exact hK.out _ _ (RS.next (wv := wv) (vs := vs) 2 (x := .bool true) (by rw [HLIT.out]; simp only [upv, e1, Nat.reduceBEq, cond_true, cond_false]) (by rw [HG.out]; exact j4.out) hM.out (by rw [HG.out]; exact fun _ _ h => h) (by rw [HG.out]; exact E2.out.symm))
      · intro bf ac wv hfb haf hJ K' hK
        obtain ⟨vs, rfl, hM, j4⟩ := hJ
        replace hK := Lib.hid hK
        replace hM := Lib.hid hM
        rw [HG.out] at j4
        simp [Region.binds] at haf
        have e1 := ((j4 1 (by simp [haf]))).trans E1.out
        have e2 := ((j4 2 (by simp [haf]))).trans E2.out
        replace j4 := Lib.hid j4
        clear haf hfb
        rw [HLIT.out]
        go_simp
        exact hK.out _ _ (RS.next (wv := wv) (vs := vs) 3 (x := .bool true) (by rw [HLIT.out]; simp only [upv, e1, e2, Nat.reduceBEq, cond_true, cond_false]) (by rw [HG.out]; exact j4.out) hM.out (by rw [HG.out]; exact fun _ _ h => h) (by rw [HG.out]; exact E3.out.symm))
      · intro bf ac wv hfb haf hJ K' hK
        obtain ⟨vs, rfl, hM, j4⟩ := hJ
        replace hK := Lib.hid hK
        replace hM := Lib.hid hM
        rw [HG.out] at j4
        simp [Region.binds] at haf
        have e3 := ((j4 3 (by simp [haf]))).trans E3.out
        replace j4 := Lib.hid j4
        clear haf hfb
        rw [HLIT.out]
        go_simp
        exact hK.out _ _ (RS.next (wv := wv) (vs := vs) 4 (x := .bool true) (by rw [HLIT.out]; simp only [upv, e3, Nat.reduceBEq, cond_true, cond_false]) (by rw [HG.out]; exact j4.out) hM.out (by rw [HG.out]; exact fun _ _ h => h) (by rw [HG.out]; exact E4.out.symm))
      · intro bf ac wv hfb haf hJ K' hK
        obtain ⟨vs, rfl, hM, j4⟩ := hJ
        replace hK := Lib.hid hK
        replace hM := Lib.hid hM
        rw [HG.out] at j4
        simp [Region.binds] at haf
        have e4 := ((j4 4 (by simp [haf]))).trans E4.out
        replace j4 := Lib.hid j4
        clear haf hfb
        rw [HLIT.out]
        go_simp
        exact hK.out _ _ (RS.next (wv := wv) (vs := vs) 5 (x := .bool true) (by rw [HLIT.out]; simp only [upv, e4, Nat.reduceBEq, cond_true, cond_false]) (by rw [HG.out]; exact j4.out) hM.out (by rw [HG.out]; exact fun _ _ h => h) (by rw [HG.out]; exact E5.out.symm))
      · intro bf ac wv hfb haf hJ K' hK
        obtain ⟨vs, rfl, hM, j4⟩ := hJ
        replace hK := Lib.hid hK
        replace hM := Lib.hid hM
        rw [HG.out] at j4
        simp [Region.binds] at haf
        have e4 := ((j4 4 (by simp [haf]))).trans E4.out
        have e5 := ((j4 5 (by simp [haf]))).trans E5.out
        replace j4 := Lib.hid j4
        clear haf hfb
        rw [HLIT.out]
        go_simp
        exact hK.out _ _ (RS.next (wv := wv) (vs := vs) 6 (x := .bool true) (by rw [HLIT.out]; simp only [upv, e4, e5, Nat.reduceBEq, cond_true, cond_false]) (by rw [HG.out]; exact j4.out) hM.out (by rw [HG.out]; exact fun _ _ h => h) (by rw [HG.out]; exact E6.out.symm))
      · intro bf ac wv hfb haf hJ K' hK
        obtain ⟨vs, rfl, hM, j4⟩ := hJ
        replace hK := Lib.hid hK
        replace hM := Lib.hid hM
        rw [HG.out] at j4
        simp [Region.binds] at haf
        have e6 := ((j4 6 (by simp [haf]))).trans E6.out
        replace j4 := Lib.hid j4
        clear haf hfb
        rw [HLIT.out]
        go_simp
        exact hK.out _ _ (RS.next (wv := wv) (vs := vs) 7 (x := .bool true) (by rw [HLIT.out]; simp only [upv, e6, Nat.reduceBEq, cond_true, cond_false]) (by rw [HG.out]; exact j4.out) hM.out (by rw [HG.out]; exact fun _ _ h => h) (by rw [HG.out]; exact E7.out.symm))
      · intro bf ac wv hfb haf hJ K' hK
        obtain ⟨vs, rfl, hM, j4⟩ := hJ
        replace hK := Lib.hid hK
        replace hM := Lib.hid hM
        rw [HG.out] at j4
        simp [Region.binds] at haf
        have e7 := ((j4 7 (by simp [haf]))).trans E7.out
        replace j4 := Lib.hid j4
        clear haf hfb
        have K1 := LA.out.step hM.out
        have Ax0 := K1.c 0 rfl
        have Ax1 := K1.c 1 rfl
        have Ax2 := K1.c 2 rfl
        have Axz := K1.2.2
        clear K1
        rw [HLIT.out]
        go_simp
        exact hK.out _ _ (RS.next (wv := wv) (vs := vs) 8 (x := .agg #[.int .i64 i, .slice a l.length cap, .int .i64 g]) (by rw [HLIT.out]; simp only [upv, e7, Nat.reduceBEq, cond_true, cond_false]) (by rw [HG.out]; exact j4.out) hM.out (by rw [HG.out]; exact fun _ _ h => h) (by rw [HG.out]; exact E8.out.symm))
      · intro bf ac wv hfb haf hJ K' hK
        obtain ⟨vs, rfl, hM, j4⟩ := hJ
        replace hK := Lib.hid hK
        replace hM := Lib.hid hM
        rw [HG.out] at j4
        simp [Region.binds] at haf
        have e7 := ((j4 7 (by simp [haf]))).trans E7.out
        replace j4 := Lib.hid j4
        clear haf hfb
        have K1 := LK.out.step hM.out
        have Kx0 := K1.c 0 rfl
        have Kx1 := K1.c 1 rfl
        have Kx2 := K1.c 2 rfl
        have Kx3 := K1.c 3 rfl
        have Kxz := K1.2.2
        clear K1
        rw [HLIT.out]
        go_simp
        exact hK.out _ _ (RS.next (wv := wv) (vs := vs) 9 (x := .agg #[.int .i64 r, .int .i64 v, .int .i64 x, .int .i64 t]) (by rw [HLIT.out]; simp only [upv, e7, Nat.reduceBEq, cond_true, cond_false]) (by rw [HG.out]; exact j4.out) hM.out (by rw [HG.out]; exact fun _ _ h => h) (by rw [HG.out]; exact E9.out.symm))
      · intro bf ac wv hfb haf hJ K' hK
        obtain ⟨vs, rfl, hM, j4⟩ := hJ
        replace hK := Lib.hid hK
        replace hM := Lib.hid hM
        rw [HG.out] at j4
        simp [Region.binds] at haf
        have e7 := ((j4 7 (by simp [haf]))).trans E7.out
        replace j4 := Lib.hid j4
        clear haf hfb
        rw [HLIT.out]
        go_simp
        exact hK.out _ _ (RS.next (wv := wv) (vs := vs) 10 (x := .int .i64 u) (by rw [HLIT.out]; simp only [upv, e7, Nat.reduceBEq, cond_true, cond_false]) (by rw [HG.out]; exact j4.out) hM.out (by rw [HG.out]; exact fun _ _ h => h) (by rw [HG.out]; exact E10.out.symm))
      · intro bf ac wv hfb haf hJ K' hK
        obtain ⟨vs, rfl, hM, j4⟩ := hJ
        replace hK := Lib.hid hK
        replace hM := Lib.hid hM
        rw [HG.out] at j4
        simp [Region.binds] at haf
        have e7 := ((j4 7 (by simp [haf]))).trans E7.out
        have e8 := ((j4 8 (by simp [haf]))).trans E8.out
        have e9 := ((j4 9 (by simp [haf]))).trans E9.out
        have e10 := ((j4 10 (by simp [haf]))).trans E10.out
        replace j4 := Lib.hid j4
        clear haf hfb
        rw [HLIT.out]
        go_simp
        go_at_call 20
        refine (permits_any i g r v x t u _ l _ (HS.out.step hM.out)).mono ?_
        rintro e w4 ⟨rfl, b4⟩
        rw [HEP.out]
        exact hK.out _ _ (RS.next (wv := wv) (vs := vs) 11 (x := .int .i64 EP) (by rw [HLIT.out]; simp only [upv, e7, e8, e9, e10, Nat.reduceBEq, cond_true, cond_false]) (by rw [HG.out]; exact j4.out) (keep2 b4 hM.out) (by rw [HG.out]; exact fun _ _ h => h) (by rw [HG.out]; exact E11.out.symm))
      · intro bf ac wv hfb haf hJ K' hK
        obtain ⟨vs, rfl, hM, j4⟩ := hJ
        replace hK := Lib.hid hK
        replace hM := Lib.hid hM
        rw [HG.out] at j4
        simp [Region.binds] at haf
        have e7 := ((j4 7 (by simp [haf]))).trans E7.out
        replace j4 := Lib.hid j4
        clear haf hfb
        have K1 := LA.out.step hM.out
        have Ax0 := K1.c 0 rfl
        have Ax1 := K1.c 1 rfl
        have Ax2 := K1.c 2 rfl
        have Axz := K1.2.2
        clear K1
        rw [HLIT.out]
        go_simp
        exact hK.out _ _ (RS.next (wv := wv) (vs := vs) 12 (x := .agg #[.int .i64 i, .slice a l.length cap, .int .i64 g]) (by rw [HLIT.out]; simp only [upv, e7, Nat.reduceBEq, cond_true, cond_false]) (by rw [HG.out]; exact j4.out) hM.out (by rw [HG.out]; exact fun _ _ h => h) (by rw [HG.out]; exact E12.out.symm))
      · intro bf ac wv hfb haf hJ K' hK
        obtain ⟨vs, rfl, hM, j4⟩ := hJ
        replace hK := Lib.hid hK
        replace hM := Lib.hid hM
        rw [HG.out] at j4
        simp [Region.binds] at haf
        have e7 := ((j4 7 (by simp [haf]))).trans E7.out
        replace j4 := Lib.hid j4
        clear haf hfb
        have K1 := LK.out.step hM.out
        have Kx0 := K1.c 0 rfl
        have Kx1 := K1.c 1 rfl
        have Kx2 := K1.c 2 rfl
        have Kx3 := K1.c 3 rfl
        have Kxz := K1.2.2
        clear K1
        rw [HLIT.out]
        go_simp
        exact hK.out _ _ (RS.next (wv := wv) (vs := vs) 13 (x := .agg #[.int .i64 r, .int .i64 v, .int .i64 x, .int .i64 t]) (by rw [HLIT.out]; simp only [upv, e7, Nat.reduceBEq, cond_true, cond_false]) (by rw [HG.out]; exact j4.out) hM.out (by rw [HG.out]; exact fun _ _ h => h) (by rw [HG.out]; exact E13.out.symm))
      · intro bf ac wv hfb haf hJ K' hK
        obtain ⟨vs, rfl, hM, j4⟩ := hJ
        replace hK := Lib.hid hK
        replace hM := Lib.hid hM
        rw [HG.out] at j4
        simp [Region.binds] at haf
        have e7 := ((j4 7 (by simp [haf]))).trans E7.out
        replace j4 := Lib.hid j4
        clear haf hfb
        rw [HLIT.out]
        go_simp
        exact hK.out _ _ (RS.next (wv := wv) (vs := vs) 14 (x := .int .i64 u) (by rw [HLIT.out]; simp only [upv, e7, Nat.reduceBEq, cond_true, cond_false]) (by rw [HG.out]; exact j4.out) hM.out (by rw [HG.out]; exact fun _ _ h => h) (by rw [HG.out]; exact E14.out.symm))
      · intro bf ac wv hfb haf hJ K' hK
        obtain ⟨vs, rfl, hM, j4⟩ := hJ
        replace hK := Lib.hid hK
        replace hM := Lib.hid hM
        rw [HG.out] at j4
        simp [Region.binds] at haf
        have e7 := ((j4 7 (by simp [haf]))).trans E7.out
        have e12 := ((j4 12 (by simp [haf]))).trans E12.out
        have e13 := ((j4 13 (by simp [haf]))).trans E13.out
        have e14 := ((j4 14 (by simp [haf]))).trans E14.out
        replace j4 := Lib.hid j4
        clear haf hfb
        rw [HLIT.out]
        go_simp
        go_at_call 21
        refine (rpermits_any i g r v x t u _ l _ (HS.out.step hM.out)).mono ?_
        rintro e w4 ⟨rfl, b4⟩
        rw [HEP.out]
        exact hK.out _ _ (RS.next (wv := wv) (vs := vs) 15 (x := .int .i64 EP) (by rw [HLIT.out]; simp only [upv, e7, e12, e13, e14, Nat.reduceBEq, cond_true, cond_false]) (by rw [HG.out]; exact j4.out) (keep2 b4 hM.out) (by rw [HG.out]; exact fun _ _ h => h) (by rw [HG.out]; exact E15.out.symm))
      · intro bf ac wv hfb haf hJ K' hK
        obtain ⟨vs, rfl, hM, j4⟩ := hJ
        replace hK := Lib.hid hK
        replace hM := Lib.hid hM
        rw [HG.out] at j4
        simp [Region.binds] at haf
        have e7 := ((j4 7 (by simp [haf]))).trans E7.out
        have e11 := ((j4 11 (by simp [haf]))).trans E11.out
        have e15 := ((j4 15 (by simp [haf]))).trans E15.out
        replace j4 := Lib.hid j4
        clear haf hfb
        rw [HLIT.out]
        go_simp
        exact hK.out _ _ (RS.next (wv := wv) (vs := vs) 16 (x := .bool true) (by rw [HLIT.out]; simp only [upv, e7, e11, e15, Nat.reduceBEq, cond_true, cond_false]) (by rw [HG.out]; exact j4.out) hM.out (by rw [HG.out]; exact fun _ _ h => h) (by rw [HG.out]; exact E16.out.symm))
      · intro bf ac wv hfb haf hJ K' hK
        obtain ⟨vs, rfl, hM, j4⟩ := hJ
        replace hK := Lib.hid hK
        replace hM := Lib.hid hM
        rw [HG.out] at j4
        simp [Region.binds] at haf
        have e7 := ((j4 7 (by simp [haf]))).trans E7.out
        have e16 := ((j4 16 (by simp [haf]))).trans E16.out
        replace j4 := Lib.hid j4
        clear haf hfb
        rw [HLIT.out]
        go_simp
        exact hK.out _ _ (RS.next (wv := wv) (vs := vs) 17 (x := .bool true) (by rw [HLIT.out]; simp only [upv, e7, e16, Nat.reduceBEq, cond_true, cond_false]) (by rw [HG.out]; exact j4.out) hM.out (by rw [HG.out]; exact fun _ _ h => h) (by rw [HG.out]; exact E17.out.symm))
      · intro bf ac wv hfb haf hJ K' hK
        obtain ⟨vs, rfl, hM, j4⟩ := hJ
        replace hK := Lib.hid hK
        replace hM := Lib.hid hM
        rw [HG.out] at j4
        simp [Region.binds] at haf
        have e17 := ((j4 17 (by simp [haf]))).trans E17.out
        replace j4 := Lib.hid j4
        clear haf hfb
        rw [HLIT.out]
        go_simp
        exact hK.out _ _ (RS.next (wv := wv) (vs := vs) 18 (x := .bool true) (by rw [HLIT.out]; simp only [upv, e17, Nat.reduceBEq, cond_true, cond_false]) (by rw [HG.out]; exact j4.out) hM.out (by rw [HG.out]; exact fun _ _ h => h) (by rw [HG.out]; exact E18.out.symm))
      · intro bf ac wv hfb haf hJ K' hK
        obtain ⟨vs, rfl, hM, j4⟩ := hJ
        replace hK := Lib.hid hK
        replace hM := Lib.hid hM
        rw [HG.out] at j4
        simp [Region.binds] at haf
        have e18 := ((j4 18 (by simp [haf]))).trans E18.out
        replace j4 := Lib.hid j4
        clear haf hfb
        rw [HLIT.out]
        go_simp
        exact hK.out _ _ (RS.next (wv := wv) (vs := vs) 19 (x := .int .i64 key) (by rw [HLIT.out]; simp only [upv, e18, Nat.reduceBEq, cond_true, cond_false]) (by rw [HG.out]; exact j4.out) hM.out (by rw [HG.out]; exact fun _ _ h => h) (by rw [HG.out]; exact E19.out.symm))
      · intro bf ac wv hfb haf hJ K' hK
        obtain ⟨vs, rfl, hM, j4⟩ := hJ
        replace hK := Lib.hid hK
        replace hM := Lib.hid hM
        rw [HG.out] at j4
        simp [Region.binds] at haf
        have e18 := ((j4 18 (by simp [haf]))).trans E18.out
        replace j4 := Lib.hid j4
        clear haf hfb
        have K1 := LA.out.step hM.out
        have Ax0 := K1.c 0 rfl
        have Ax1 := K1.c 1 rfl
        have Ax2 := K1.c 2 rfl
        have Axz := K1.2.2
        clear K1
        rw [HLIT.out]
        go_simp
        exact hK.out _ _ (RS.next (wv := wv) (vs := vs) 20 (x := .agg #[.int .i64 i, .slice a l.length cap, .int .i64 g]) (by rw [HLIT.out]; simp only [upv, e18, Nat.reduceBEq, cond_true, cond_false]) (by rw [HG.out]; exact j4.out) hM.out (by rw [HG.out]; exact fun _ _ h => h) (by rw [HG.out]; exact E20.out.symm))
      · intro bf ac wv hfb haf hJ K' hK
        obtain ⟨vs, rfl, hM, j4⟩ := hJ
        replace hK := Lib.hid hK
        replace hM := Lib.hid hM
        rw [HG.out] at j4
        simp [Region.binds] at haf
        have e18 := ((j4 18 (by simp [haf]))).trans E18.out
        replace j4 := Lib.hid j4
        clear haf hfb
        have K1 := LK.out.step hM.out
        have Kx0 := K1.c 0 rfl
        have Kx1 := K1.c 1 rfl
        have Kx2 := K1.c 2 rfl
        have Kx3 := K1.c 3 rfl
        have Kxz := K1.2.2
        clear K1
        rw [HLIT.out]
        go_simp
        exact hK.out _ _ (RS.next (wv := wv) (vs := vs) 21 (x := .agg #[.int .i64 r, .int .i64 v, .int .i64 x, .int .i64 t]) (by rw [HLIT.out]; simp only [upv, e18, Nat.reduceBEq, cond_true, cond_false]) (by rw [HG.out]; exact j4.out) hM.out (by rw [HG.out]; exact fun _ _ h => h) (by rw [HG.out]; exact E21.out.symm))
      · intro bf ac wv hfb haf hJ K' hK
        obtain ⟨vs, rfl, hM, j4⟩ := hJ
        replace hK := Lib.hid hK
        replace hM := Lib.hid hM
        rw [HG.out] at j4
        simp [Region.binds] at haf
        have e18 := ((j4 18 (by simp [haf]))).trans E18.out
        replace j4 := Lib.hid j4
        clear haf hfb
        rw [HLIT.out]
        go_simp
        exact hK.out _ _ (RS.next (wv := wv) (vs := vs) 22 (x := .int .i64 u) (by rw [HLIT.out]; simp only [upv, e18, Nat.reduceBEq, cond_true, cond_false]) (by rw [HG.out]; exact j4.out) hM.out (by rw [HG.out]; exact fun _ _ h => h) (by rw [HG.out]; exact E22.out.symm))
      · intro bf ac wv hfb haf hJ K' hK
        obtain ⟨vs, rfl, hM, j4⟩ := hJ
        replace hK := Lib.hid hK
        replace hM := Lib.hid hM
        rw [HG.out] at j4
        simp [Region.binds] at haf
        have e18 := ((j4 18 (by simp [haf]))).trans E18.out
        have e19 := ((j4 19 (by simp [haf]))).trans E19.out
        have e20 := ((j4 20 (by simp [haf]))).trans E20.out
        have e21 := ((j4 21 (by simp [haf]))).trans E21.out
        have e22 := ((j4 22 (by simp [haf]))).trans E22.out
        replace j4 := Lib.hid j4
        clear haf hfb
        rw [HLIT.out]
        go_simp
        go_at_call 22
        refine (check_any key i g r v x t u _ l _ (HS.out.step hM.out)).mono ?_
        rintro e w4 ⟨rfl, b4⟩
        rw [HEK.out]
        exact hK.out _ _ (RS.next (wv := wv) (vs := vs) 23 (x := .int .i64 EK) (by rw [HLIT.out]; simp only [upv, e18, e19, e20, e21, e22, Nat.reduceBEq, cond_true, cond_false]) (by rw [HG.out]; exact j4.out) (keep2 b4 hM.out) (by rw [HG.out]; exact fun _ _ h => h) (by rw [HG.out]; exact E23.out.symm))
      · intro bf ac wv hfb haf hJ K' hK
        obtain ⟨vs, rfl, hM, j4⟩ := hJ
        replace hK := Lib.hid hK
        replace hM := Lib.hid hM
        rw [HG.out] at j4
        simp [Region.binds] at haf
        have e18 := ((j4 18 (by simp [haf]))).trans E18.out
        replace j4 := Lib.hid j4
        clear haf hfb
        rw [HLIT.out]
        go_simp
        exact hK.out _ _ (RS.next (wv := wv) (vs := vs) 24 (x := .int .i64 key) (by rw [HLIT.out]; simp only [upv, e18, Nat.reduceBEq, cond_true, cond_false]) (by rw [HG.out]; exact j4.out) hM.out (by rw [HG.out]; exact fun _ _ h => h) (by rw [HG.out]; exact E24.out.symm))
      · intro bf ac wv hfb haf hJ K' hK
        obtain ⟨vs, rfl, hM, j4⟩ := hJ
        replace hK := Lib.hid hK
        replace hM := Lib.hid hM
        rw [HG.out] at j4
        simp [Region.binds] at haf
        have e18 := ((j4 18 (by simp [haf]))).trans E18.out
        replace j4 := Lib.hid j4
        clear haf hfb
        have K1 := LA.out.step hM.out
        have Ax0 := K1.c 0 rfl
        have Ax1 := K1.c 1 rfl
        have Ax2 := K1.c 2 rfl
        have Axz := K1.2.2
        clear K1
        rw [HLIT.out]
        go_simp
        exact hK.out _ _ (RS.next (wv := wv) (vs := vs) 25 (x := .agg #[.int .i64 i, .slice a l.length cap, .int .i64 g]) (by rw [HLIT.out]; simp only [upv, e18, Nat.reduceBEq, cond_true, cond_false]) (by rw [HG.out]; exact j4.out) hM.out (by rw [HG.out]; exact fun _ _ h => h) (by rw [HG.out]; exact E25.out.symm))
      · intro bf ac wv hfb haf hJ K' hK
        obtain ⟨vs, rfl, hM, j4⟩ := hJ
        replace hK := Lib.hid hK
        replace hM := Lib.hid hM
        rw [HG.out] at j4
        simp [Region.binds] at haf
        have e18 := ((j4 18 (by simp [haf]))).trans E18.out
        replace j4 := Lib.hid j4
        clear haf hfb
        have K1 := LK.out.step hM.out
        have Kx0 := K1.c 0 rfl
        have Kx1 := K1.c 1 rfl
        have Kx2 := K1.c 2 rfl
        have Kx3 := K1.c 3 rfl
        have Kxz := K1.2.2
        clear K1
        rw [HLIT.out]
        go_simp
        exact hK.out _ _ (RS.next (wv := wv) (vs := vs) 26 (x := .agg #[.int .i64 r, .int .i64 v, .int .i64 x, .int .i64 t]) (by rw [HLIT.out]; simp only [upv, e18, Nat.reduceBEq, cond_true, cond_false]) (by rw [HG.out]; exact j4.out) hM.out (by rw [HG.out]; exact fun _ _ h => h) (by rw [HG.out]; exact E26.out.symm))
      · intro bf ac wv hfb haf hJ K' hK
        obtain ⟨vs, rfl, hM, j4⟩ := hJ
        replace hK := Lib.hid hK
        replace hM := Lib.hid hM
        rw [HG.out] at j4
        simp [Region.binds] at haf
        have e18 := ((j4 18 (by simp [haf]))).trans E18.out
        replace j4 := Lib.hid j4
        clear haf hfb
        rw [HLIT.out]
        go_simp
        exact hK.out _ _ (RS.next (wv := wv) (vs := vs) 27 (x := .int .i64 u) (by rw [HLIT.out]; simp only [upv, e18, Nat.reduceBEq, cond_true, cond_false]) (by rw [HG.out]; exact j4.out) hM.out (by rw [HG.out]; exact fun _ _ h => h) (by rw [HG.out]; exact E27.out.symm))
      · intro bf ac wv hfb haf hJ K' hK
        obtain ⟨vs, rfl, hM, j4⟩ := hJ
        replace hK := Lib.hid hK
        replace hM := Lib.hid hM
        rw [HG.out] at j4
        simp [Region.binds] at haf
        have e18 := ((j4 18 (by simp [haf]))).trans E18.out
        have e24 := ((j4 24 (by simp [haf]))).trans E24.out
        have e25 := ((j4 25 (by simp [haf]))).trans E25.out
        have e26 := ((j4 26 (by simp [haf]))).trans E26.out
        have e27 := ((j4 27 (by simp [haf]))).trans E27.out
        replace j4 := Lib.hid j4
        clear haf hfb
        rw [HLIT.out]
        go_simp
        go_at_call 23
        refine (rcheck_any key i g r v x t u _ l _ (HS.out.step hM.out)).mono ?_
        rintro e w4 ⟨rfl, b4⟩
        rw [HEK.out]
        exact hK.out _ _ (RS.next (wv := wv) (vs := vs) 28 (x := .int .i64 EK) (by rw [HLIT.out]; simp only [upv, e18, e24, e25, e26, e27, Nat.reduceBEq, cond_true, cond_false]) (by rw [HG.out]; exact j4.out) (keep2 b4 hM.out) (by rw [HG.out]; exact fun _ _ h => h) (by rw [HG.out]; exact E28.out.symm))
      · intro bf ac wv hfb haf hJ K' hK
        obtain ⟨vs, rfl, hM, j4⟩ := hJ
        replace hK := Lib.hid hK
        replace hM := Lib.hid hM
        rw [HG.out] at j4
        simp [Region.binds] at haf
        have e18 := ((j4 18 (by simp [haf]))).trans E18.out
        have e23 := ((j4 23 (by simp [haf]))).trans E23.out
        have e28 := ((j4 28 (by simp [haf]))).trans E28.out
        replace j4 := Lib.hid j4
        clear haf hfb
        rw [HLIT.out]
        go_simp
        exact hK.out _ _ (RS.next (wv := wv) (vs := vs) 29 (x := .bool true) (by rw [HLIT.out]; simp only [upv, e18, e23, e28, Nat.reduceBEq, cond_true, cond_false]) (by rw [HG.out]; exact j4.out) hM.out (by rw [HG.out]; exact fun _ _ h => h) (by rw [HG.out]; exact E29.out.symm))
      · intro bf ac wv hfb haf hJ K' hK
        obtain ⟨vs, rfl, hM, j4⟩ := hJ
        replace hK := Lib.hid hK
        replace hM := Lib.hid hM
        rw [HG.out] at j4
        simp [Region.binds] at haf
        have e18 := ((j4 18 (by simp [haf]))).trans E18.out
        have e29 := ((j4 29 (by simp [haf]))).trans E29.out
        replace j4 := Lib.hid j4
        clear haf hfb
        rw [HLIT.out]
        go_simp
        exact hK.out _ _ (RS.next (wv := wv) (vs := vs) 30 (x := .bool true) (by rw [HLIT.out]; simp only [upv, e18, e29, Nat.reduceBEq, cond_true, cond_false]) (by rw [HG.out]; exact j4.out) hM.out (by rw [HG.out]; exact fun _ _ h => h) (by rw [HG.out]; exact E30.out.symm))
      · intro bf ac wv hfb haf hJ K' hK
        obtain ⟨vs, rfl, hM, j4⟩ := hJ
        replace hK := Lib.hid hK
        replace hM := Lib.hid hM
        rw [HG.out] at j4
        simp [Region.binds] at haf
        have e30 := ((j4 30 (by simp [haf]))).trans E30.out
        replace j4 := Lib.hid j4
        clear haf hfb
        rw [HLIT.out]
        go_simp
        exact hK.out _ _ (RS.next (wv := wv) (vs := vs) 31 (x := .bool true) (by rw [HLIT.out]; simp only [upv, e30, Nat.reduceBEq, cond_true, cond_false]) (by rw [HG.out]; exact j4.out) hM.out (by rw [HG.out]; exact fun _ _ h => h) (by rw [HG.out]; exact E31.out.symm))
    · intro bf ac wv hall hJ
      obtain ⟨vs, rfl, hM, j4⟩ := hJ
      rw [HG.out] at j4
      have e31 := ((j4 31 (hall 31 (by decide)))).trans E31.out
      replace hM := Lib.hid hM
      clear hall j4
      rw [HLIT.out]
      dsimp only
      rw [e31]
      clear e31
      go_wp2
      go_ret
      exact ⟨rfl, keep2 hM.out HBX.out⟩
theorem match_any (key id i g : Int) (sl : Value) (l : List Cv) (ck cz r v x t u : Int) (w : World) (h : CvsAt w sl l) : Calls Try.prog 3 #[.int .i64 key, .int .i64 id, .agg #[.int .i64 i, sl, .int .i64 g], .agg #[.int .i64 ck, .int .i64 cz], .agg #[.int .i64 r, .int .i64 v, .int .i64 x, .int .i64 t], .int .i64 u] w fun e w' => e = .returned (.bool true) ∧ Below w.heap.size w w' := by
  by_cases hl : l.length ≤ 20
  · exact match_ok key id i g sl l ck cz r v x t u w h hl
  · exact match_len key id i g sl l ck cz r v x t u w h (by omega)
end Go.Proofs.Ytdifgdnndmikaaa
