/- Capabilities: the reference's 'Narrow' where it gives an error. -/
import Derived.Test.YtdifgdnndmikaaaKp
namespace Go.Proofs.Ytdifgdnndmikaaa
open Go.RowKit

set_option maxRecDepth 100000 in
set_option maxHeartbeats 4000000 in
theorem rnarrow_bad1 (id tag k v : Int) (sl : Value) (l : List Cv) (w : World) (h : CvsAt w sl l) (hc : capB id tag l = false) : Calls Try.prog 11 #[.agg #[.int .i64 id, sl, .int .i64 tag], .agg #[.int .i64 k, .int .i64 v]] w fun e w' => e = .returned (.tuple #[.agg #[.int .i64 0, .slice none 0 0, .int .i64 0], .int .i64 1]) ∧ Below w.heap.size w w' := by
  have H := Lib.hid h
  obtain ⟨a, cap, rfl, hcp, hm, -⟩ := h
  have HC := Lib.hid hc
  clear hc hcp hm
  have HB0 := Lib.hid (Below.refl w.heap.size w)
  go_enter Try.func11, Try.ntmps11
  have KA_1 := Lib.hid (Cs.new w (w.heap.size) #[.int .i64 id, .slice a l.length cap, .int .i64 tag] 24 (by simp))
  have HB2 : Hid (Below w.heap.size w (w.alloc (.cells #[.int .i64 id, .slice a l.length cap, .int .i64 tag] 24))) := HB0.out.alloc HB0.out.size _
  clear HB0
  have KA_3 := Lib.hid (KA_1.out.alloc (.cells #[.int .i64 k, .int .i64 v] 26))
  clear KA_1
  have KV_4 := Lib.hid (Cs.new (w.alloc (.cells #[.int .i64 id, .slice a l.length cap, .int .i64 tag] 24)) (w.heap.size + 1) #[.int .i64 k, .int .i64 v] 26 (by simp))
  have HB5 : Hid (Below w.heap.size w ((w.alloc (.cells #[.int .i64 id, .slice a l.length cap, .int .i64 tag] 24)).alloc (.cells #[.int .i64 k, .int .i64 v] 26))) := HB2.out.alloc HB2.out.size _
  clear HB2
  have KA_6 := Lib.hid (KA_3.out.alloc (.cells #[.int .i64 0, .slice none 0 0, .int .i64 0] 24))
  clear KA_3
  have KV_7 := Lib.hid (KV_4.out.alloc (.cells #[.int .i64 0, .slice none 0 0, .int .i64 0] 24))
  clear KV_4
  have KR_8 := Lib.hid (Cs.new ((w.alloc (.cells #[.int .i64 id, .slice a l.length cap, .int .i64 tag] 24)).alloc (.cells #[.int .i64 k, .int .i64 v] 26)) (w.heap.size + 1 + 1) #[.int .i64 0, .slice none 0 0, .int .i64 0] 24 (by simp))
  have HB9 : Hid (Below w.heap.size w (((w.alloc (.cells #[.int .i64 id, .slice a l.length cap, .int .i64 tag] 24)).alloc (.cells #[.int .i64 k, .int .i64 v] 26)).alloc (.cells #[.int .i64 0, .slice none 0 0, .int .i64 0] 24))) := HB5.out.alloc HB5.out.size _
  clear HB5
  have xA0 : (((w.alloc (.cells #[.int .i64 id, .slice a l.length cap, .int .i64 tag] 24)).alloc (.cells #[.int .i64 k, .int .i64 v] 26)).alloc (.cells #[.int .i64 0, .slice none 0 0, .int .i64 0] 24)).cell? ⟨w.heap.size, 0, none⟩ = some (.int .i64 id) := KA_6.out.c 0 rfl
  have xA1 : (((w.alloc (.cells #[.int .i64 id, .slice a l.length cap, .int .i64 tag] 24)).alloc (.cells #[.int .i64 k, .int .i64 v] 26)).alloc (.cells #[.int .i64 0, .slice none 0 0, .int .i64 0] 24)).cell? ⟨w.heap.size, 1, none⟩ = some (.slice a l.length cap) := KA_6.out.c 1 rfl
  have xA2 : (((w.alloc (.cells #[.int .i64 id, .slice a l.length cap, .int .i64 tag] 24)).alloc (.cells #[.int .i64 k, .int .i64 v] 26)).alloc (.cells #[.int .i64 0, .slice none 0 0, .int .i64 0] 24)).cell? ⟨w.heap.size, 2, none⟩ = some (.int .i64 tag) := KA_6.out.c 2 rfl
  have zA : w.heap.size < (((w.alloc (.cells #[.int .i64 id, .slice a l.length cap, .int .i64 tag] 24)).alloc (.cells #[.int .i64 k, .int .i64 v] 26)).alloc (.cells #[.int .i64 0, .slice none 0 0, .int .i64 0] 24)).heap.size := KA_6.out.2.2
  have z2A : w.heap.size < (((w.alloc (.cells #[.int .i64 id, .slice a l.length cap, .int .i64 tag] 24)).alloc (.cells #[.int .i64 k, .int .i64 v] 26)).alloc (.cells #[.int .i64 0, .slice none 0 0, .int .i64 0] 24)).heap.size + 1 := by omega
  have xV0 : (((w.alloc (.cells #[.int .i64 id, .slice a l.length cap, .int .i64 tag] 24)).alloc (.cells #[.int .i64 k, .int .i64 v] 26)).alloc (.cells #[.int .i64 0, .slice none 0 0, .int .i64 0] 24)).cell? ⟨w.heap.size + 1, 0, none⟩ = some (.int .i64 k) := KV_7.out.c 0 rfl
  have xV1 : (((w.alloc (.cells #[.int .i64 id, .slice a l.length cap, .int .i64 tag] 24)).alloc (.cells #[.int .i64 k, .int .i64 v] 26)).alloc (.cells #[.int .i64 0, .slice none 0 0, .int .i64 0] 24)).cell? ⟨w.heap.size + 1, 1, none⟩ = some (.int .i64 v) := KV_7.out.c 1 rfl
  have zV : w.heap.size + 1 < (((w.alloc (.cells #[.int .i64 id, .slice a l.length cap, .int .i64 tag] 24)).alloc (.cells #[.int .i64 k, .int .i64 v] 26)).alloc (.cells #[.int .i64 0, .slice none 0 0, .int .i64 0] 24)).heap.size := KV_7.out.2.2
  have z2V : w.heap.size + 1 < (((w.alloc (.cells #[.int .i64 id, .slice a l.length cap, .int .i64 tag] 24)).alloc (.cells #[.int .i64 k, .int .i64 v] 26)).alloc (.cells #[.int .i64 0, .slice none 0 0, .int .i64 0] 24)).heap.size + 1 := by omega
  go_wp2_with fail
  refine (rcap_any id tag _ l _ (H.out.step HB9.out)).mono ?_
  rintro e u1 ⟨rfl, b1⟩
  clear xA0 xA1 xA2 zA z2A xV0 xV1 zV z2V
  have KA_10 := Lib.hid (KA_6.out.step b1)
  clear KA_6
  have KV_11 := Lib.hid (KV_7.out.step b1)
  clear KV_7
  have KR_12 := Lib.hid (KR_8.out.step b1)
  clear KR_8
  have HB13 := Lib.hid (keep2 b1 HB9.out)
  clear HB9 b1
  rw [HC.out]
  have xR0 : u1.cell? ⟨w.heap.size + 1 + 1, 0, none⟩ = some (.int .i64 0) := KR_12.out.c 0 rfl
  have yR0 : u1.frozen? ⟨w.heap.size + 1 + 1, 0, none⟩ = false := KR_12.out.f 0 (by simp)
  have xR1 : u1.cell? ⟨w.heap.size + 1 + 1, 1, none⟩ = some (.slice none 0 0) := KR_12.out.c 1 rfl
  have yR1 : u1.frozen? ⟨w.heap.size + 1 + 1, 1, none⟩ = false := KR_12.out.f 1 (by simp)
  have xR2 : u1.cell? ⟨w.heap.size + 1 + 1, 2, none⟩ = some (.int .i64 0) := KR_12.out.c 2 rfl
  have yR2 : u1.frozen? ⟨w.heap.size + 1 + 1, 2, none⟩ = false := KR_12.out.f 2 (by simp)
  have zR : w.heap.size + 1 + 1 < u1.heap.size := KR_12.out.2.2
  have z2R : w.heap.size + 1 + 1 < u1.heap.size + 1 := by omega
  go_wp2
  exact bodyPost_ret (v := .tuple #[.agg #[.int .i64 0, .slice none 0 0, .int .i64 0], .int .i64 1]) (by simp [results, Try.results11, go_sem, xR0, xR1, xR2]) rfl ⟨rfl, (by repeat (first | with_reducible exact HB13.out | with_reducible exact Below.refl _ _ | ((with_reducible refine Below.setCell ?_ ?_ _); rotate_left; focus (first | (simp; done) | (simp; omega) | omega)) | ((with_reducible refine Below.alloc ?_ ?_ _); rotate_left; focus (first | (simp; done) | (simp; omega) | omega)) | with_reducible refine Below.trans ?_ (below_drewN' _ _ _) | with_reducible refine Below.trans ?_ (below_drew _ _)))⟩
set_option maxRecDepth 100000 in
set_option maxHeartbeats 4000000 in
theorem rnarrow_bad2 (id tag k v : Int) (sl : Value) (l : List Cv) (w : World) (h : CvsAt w sl l) (hc : capB id tag l = true) (hv : cvB k v = false) : Calls Try.prog 11 #[.agg #[.int .i64 id, sl, .int .i64 tag], .agg #[.int .i64 k, .int .i64 v]] w fun e w' => e = .returned (.tuple #[.agg #[.int .i64 0, .slice none 0 0, .int .i64 0], .int .i64 1]) ∧ Below w.heap.size w w' := by
  have H := Lib.hid h
  obtain ⟨a, cap, rfl, hcp, hm, -⟩ := h
  have HC := Lib.hid hc
  have HV := Lib.hid hv
  clear hc hv hcp hm
  have HB0 := Lib.hid (Below.refl w.heap.size w)
  go_enter Try.func11, Try.ntmps11
  have KA_1 := Lib.hid (Cs.new w (w.heap.size) #[.int .i64 id, .slice a l.length cap, .int .i64 tag] 24 (by simp))
  have HB2 : Hid (Below w.heap.size w (w.alloc (.cells #[.int .i64 id, .slice a l.length cap, .int .i64 tag] 24))) := HB0.out.alloc HB0.out.size _
  clear HB0
  have KA_3 := Lib.hid (KA_1.out.alloc (.cells #[.int .i64 k, .int .i64 v] 26))
  clear KA_1
  have KV_4 := Lib.hid (Cs.new (w.alloc (.cells #[.int .i64 id, .slice a l.length cap, .int .i64 tag] 24)) (w.heap.size + 1) #[.int .i64 k, .int .i64 v] 26 (by simp))
  have HB5 : Hid (Below w.heap.size w ((w.alloc (.cells #[.int .i64 id, .slice a l.length cap, .int .i64 tag] 24)).alloc (.cells #[.int .i64 k, .int .i64 v] 26))) := HB2.out.alloc HB2.out.size _
  clear HB2
  have KA_6 := Lib.hid (KA_3.out.alloc (.cells #[.int .i64 0, .slice none 0 0, .int .i64 0] 24))
  clear KA_3
  have KV_7 := Lib.hid (KV_4.out.alloc (.cells #[.int .i64 0, .slice none 0 0, .int .i64 0] 24))
  clear KV_4
  have KR_8 := Lib.hid (Cs.new ((w.alloc (.cells #[.int .i64 id, .slice a l.length cap, .int .i64 tag] 24)).alloc (.cells #[.int .i64 k, .int .i64 v] 26)) (w.heap.size + 1 + 1) #[.int .i64 0, .slice none 0 0, .int .i64 0] 24 (by simp))
  have HB9 : Hid (Below w.heap.size w (((w.alloc (.cells #[.int .i64 id, .slice a l.length cap, .int .i64 tag] 24)).alloc (.cells #[.int .i64 k, .int .i64 v] 26)).alloc (.cells #[.int .i64 0, .slice none 0 0, .int .i64 0] 24))) := HB5.out.alloc HB5.out.size _
  clear HB5
  have xA0 : (((w.alloc (.cells #[.int .i64 id, .slice a l.length cap, .int .i64 tag] 24)).alloc (.cells #[.int .i64 k, .int .i64 v] 26)).alloc (.cells #[.int .i64 0, .slice none 0 0, .int .i64 0] 24)).cell? ⟨w.heap.size, 0, none⟩ = some (.int .i64 id) := KA_6.out.c 0 rfl
  have xA1 : (((w.alloc (.cells #[.int .i64 id, .slice a l.length cap, .int .i64 tag] 24)).alloc (.cells #[.int .i64 k, .int .i64 v] 26)).alloc (.cells #[.int .i64 0, .slice none 0 0, .int .i64 0] 24)).cell? ⟨w.heap.size, 1, none⟩ = some (.slice a l.length cap) := KA_6.out.c 1 rfl
  have xA2 : (((w.alloc (.cells #[.int .i64 id, .slice a l.length cap, .int .i64 tag] 24)).alloc (.cells #[.int .i64 k, .int .i64 v] 26)).alloc (.cells #[.int .i64 0, .slice none 0 0, .int .i64 0] 24)).cell? ⟨w.heap.size, 2, none⟩ = some (.int .i64 tag) := KA_6.out.c 2 rfl
  have zA : w.heap.size < (((w.alloc (.cells #[.int .i64 id, .slice a l.length cap, .int .i64 tag] 24)).alloc (.cells #[.int .i64 k, .int .i64 v] 26)).alloc (.cells #[.int .i64 0, .slice none 0 0, .int .i64 0] 24)).heap.size := KA_6.out.2.2
  have z2A : w.heap.size < (((w.alloc (.cells #[.int .i64 id, .slice a l.length cap, .int .i64 tag] 24)).alloc (.cells #[.int .i64 k, .int .i64 v] 26)).alloc (.cells #[.int .i64 0, .slice none 0 0, .int .i64 0] 24)).heap.size + 1 := by omega
  have xV0 : (((w.alloc (.cells #[.int .i64 id, .slice a l.length cap, .int .i64 tag] 24)).alloc (.cells #[.int .i64 k, .int .i64 v] 26)).alloc (.cells #[.int .i64 0, .slice none 0 0, .int .i64 0] 24)).cell? ⟨w.heap.size + 1, 0, none⟩ = some (.int .i64 k) := KV_7.out.c 0 rfl
  have xV1 : (((w.alloc (.cells #[.int .i64 id, .slice a l.length cap, .int .i64 tag] 24)).alloc (.cells #[.int .i64 k, .int .i64 v] 26)).alloc (.cells #[.int .i64 0, .slice none 0 0, .int .i64 0] 24)).cell? ⟨w.heap.size + 1, 1, none⟩ = some (.int .i64 v) := KV_7.out.c 1 rfl
  have zV : w.heap.size + 1 < (((w.alloc (.cells #[.int .i64 id, .slice a l.length cap, .int .i64 tag] 24)).alloc (.cells #[.int .i64 k, .int .i64 v] 26)).alloc (.cells #[.int .i64 0, .slice none 0 0, .int .i64 0] 24)).heap.size := KV_7.out.2.2
  have z2V : w.heap.size + 1 < (((w.alloc (.cells #[.int .i64 id, .slice a l.length cap, .int .i64 tag] 24)).alloc (.cells #[.int .i64 k, .int .i64 v] 26)).alloc (.cells #[.int .i64 0, .slice none 0 0, .int .i64 0] 24)).heap.size + 1 := by omega
  go_wp2_with fail
  refine (rcap_any id tag _ l _ (H.out.step HB9.out)).mono ?_
  rintro e u1 ⟨rfl, b1⟩
  clear xA0 xA1 xA2 zA z2A xV0 xV1 zV z2V
  have KA_10 := Lib.hid (KA_6.out.step b1)
  clear KA_6
  have KV_11 := Lib.hid (KV_7.out.step b1)
  clear KV_7
  have KR_12 := Lib.hid (KR_8.out.step b1)
  clear KR_8
  have HB13 := Lib.hid (keep2 b1 HB9.out)
  clear HB9 b1
  rw [HC.out]
  have xV0 : u1.cell? ⟨w.heap.size + 1, 0, none⟩ = some (.int .i64 k) := KV_11.out.c 0 rfl
  have xV1 : u1.cell? ⟨w.heap.size + 1, 1, none⟩ = some (.int .i64 v) := KV_11.out.c 1 rfl
  have zV : w.heap.size + 1 < u1.heap.size := KV_11.out.2.2
  have z2V : w.heap.size + 1 < u1.heap.size + 1 := by omega
  go_wp2_with fail
  refine (rcaveat_any k v _).mono ?_
  rintro e u2 ⟨rfl, b2⟩
  clear xV0 xV1 zV z2V
  have KA_14 := Lib.hid (KA_10.out.step b2)
  clear KA_10
  have KV_15 := Lib.hid (KV_11.out.step b2)
  clear KV_11
  have KR_16 := Lib.hid (KR_12.out.step b2)
  clear KR_12
  have HB17 := Lib.hid (keep2 b2 HB13.out)
  clear HB13 b2
  rw [HV.out]
  have xR0 : u2.cell? ⟨w.heap.size + 1 + 1, 0, none⟩ = some (.int .i64 0) := KR_16.out.c 0 rfl
  have yR0 : u2.frozen? ⟨w.heap.size + 1 + 1, 0, none⟩ = false := KR_16.out.f 0 (by simp)
  have xR1 : u2.cell? ⟨w.heap.size + 1 + 1, 1, none⟩ = some (.slice none 0 0) := KR_16.out.c 1 rfl
  have yR1 : u2.frozen? ⟨w.heap.size + 1 + 1, 1, none⟩ = false := KR_16.out.f 1 (by simp)
  have xR2 : u2.cell? ⟨w.heap.size + 1 + 1, 2, none⟩ = some (.int .i64 0) := KR_16.out.c 2 rfl
  have yR2 : u2.frozen? ⟨w.heap.size + 1 + 1, 2, none⟩ = false := KR_16.out.f 2 (by simp)
  have zR : w.heap.size + 1 + 1 < u2.heap.size := KR_16.out.2.2
  have z2R : w.heap.size + 1 + 1 < u2.heap.size + 1 := by omega
  go_wp2
  exact bodyPost_ret (v := .tuple #[.agg #[.int .i64 0, .slice none 0 0, .int .i64 0], .int .i64 1]) (by simp [results, Try.results11, go_sem, xR0, xR1, xR2]) rfl ⟨rfl, (by repeat (first | with_reducible exact HB17.out | with_reducible exact Below.refl _ _ | ((with_reducible refine Below.setCell ?_ ?_ _); rotate_left; focus (first | (simp; done) | (simp; omega) | omega)) | ((with_reducible refine Below.alloc ?_ ?_ _); rotate_left; focus (first | (simp; done) | (simp; omega) | omega)) | with_reducible refine Below.trans ?_ (below_drewN' _ _ _) | with_reducible refine Below.trans ?_ (below_drew _ _)))⟩
set_option maxRecDepth 100000 in
set_option maxHeartbeats 4000000 in
theorem rnarrow_full (id tag k v : Int) (sl : Value) (l : List Cv) (w : World) (h : CvsAt w sl l) (hc : capB id tag l = true) (hv : cvB k v = true) (hn : l.length = 12) : Calls Try.prog 11 #[.agg #[.int .i64 id, sl, .int .i64 tag], .agg #[.int .i64 k, .int .i64 v]] w fun e w' => e = .returned (.tuple #[.agg #[.int .i64 0, .slice none 0 0, .int .i64 0], .int .i64 30]) ∧ Below w.heap.size w w' := by
  have H := Lib.hid h
  obtain ⟨a, cap, rfl, hcp, hm, -⟩ := h
  have HC := Lib.hid hc
  have HV := Lib.hid hv
  have hn2 : ((l.length : Int) == 12) = true := by simp; omega
  have hn3 : decide ((l.length : Int) = 12) = true := by simp; omega
  replace hn := Lib.hid hn
  clear hc hv hcp hm
  have HB0 := Lib.hid (Below.refl w.heap.size w)
  go_enter Try.func11, Try.ntmps11
  have KA_1 := Lib.hid (Cs.new w (w.heap.size) #[.int .i64 id, .slice a l.length cap, .int .i64 tag] 24 (by simp))
  have HB2 : Hid (Below w.heap.size w (w.alloc (.cells #[.int .i64 id, .slice a l.length cap, .int .i64 tag] 24))) := HB0.out.alloc HB0.out.size _
  clear HB0
  have KA_3 := Lib.hid (KA_1.out.alloc (.cells #[.int .i64 k, .int .i64 v] 26))
  clear KA_1
  have KV_4 := Lib.hid (Cs.new (w.alloc (.cells #[.int .i64 id, .slice a l.length cap, .int .i64 tag] 24)) (w.heap.size + 1) #[.int .i64 k, .int .i64 v] 26 (by simp))
  have HB5 : Hid (Below w.heap.size w ((w.alloc (.cells #[.int .i64 id, .slice a l.length cap, .int .i64 tag] 24)).alloc (.cells #[.int .i64 k, .int .i64 v] 26))) := HB2.out.alloc HB2.out.size _
  clear HB2
  have KA_6 := Lib.hid (KA_3.out.alloc (.cells #[.int .i64 0, .slice none 0 0, .int .i64 0] 24))
  clear KA_3
  have KV_7 := Lib.hid (KV_4.out.alloc (.cells #[.int .i64 0, .slice none 0 0, .int .i64 0] 24))
  clear KV_4
  have KR_8 := Lib.hid (Cs.new ((w.alloc (.cells #[.int .i64 id, .slice a l.length cap, .int .i64 tag] 24)).alloc (.cells #[.int .i64 k, .int .i64 v] 26)) (w.heap.size + 1 + 1) #[.int .i64 0, .slice none 0 0, .int .i64 0] 24 (by simp))
  have HB9 : Hid (Below w.heap.size w (((w.alloc (.cells #[.int .i64 id, .slice a l.length cap, .int .i64 tag] 24)).alloc (.cells #[.int .i64 k, .int .i64 v] 26)).alloc (.cells #[.int .i64 0, .slice none 0 0, .int .i64 0] 24))) := HB5.out.alloc HB5.out.size _
  clear HB5
  have xA0 : (((w.alloc (.cells #[.int .i64 id, .slice a l.length cap, .int .i64 tag] 24)).alloc (.cells #[.int .i64 k, .int .i64 v] 26)).alloc (.cells #[.int .i64 0, .slice none 0 0, .int .i64 0] 24)).cell? ⟨w.heap.size, 0, none⟩ = some (.int .i64 id) := KA_6.out.c 0 rfl
  have xA1 : (((w.alloc (.cells #[.int .i64 id, .slice a l.length cap, .int .i64 tag] 24)).alloc (.cells #[.int .i64 k, .int .i64 v] 26)).alloc (.cells #[.int .i64 0, .slice none 0 0, .int .i64 0] 24)).cell? ⟨w.heap.size, 1, none⟩ = some (.slice a l.length cap) := KA_6.out.c 1 rfl
  have xA2 : (((w.alloc (.cells #[.int .i64 id, .slice a l.length cap, .int .i64 tag] 24)).alloc (.cells #[.int .i64 k, .int .i64 v] 26)).alloc (.cells #[.int .i64 0, .slice none 0 0, .int .i64 0] 24)).cell? ⟨w.heap.size, 2, none⟩ = some (.int .i64 tag) := KA_6.out.c 2 rfl
  have zA : w.heap.size < (((w.alloc (.cells #[.int .i64 id, .slice a l.length cap, .int .i64 tag] 24)).alloc (.cells #[.int .i64 k, .int .i64 v] 26)).alloc (.cells #[.int .i64 0, .slice none 0 0, .int .i64 0] 24)).heap.size := KA_6.out.2.2
  have z2A : w.heap.size < (((w.alloc (.cells #[.int .i64 id, .slice a l.length cap, .int .i64 tag] 24)).alloc (.cells #[.int .i64 k, .int .i64 v] 26)).alloc (.cells #[.int .i64 0, .slice none 0 0, .int .i64 0] 24)).heap.size + 1 := by omega
  have xV0 : (((w.alloc (.cells #[.int .i64 id, .slice a l.length cap, .int .i64 tag] 24)).alloc (.cells #[.int .i64 k, .int .i64 v] 26)).alloc (.cells #[.int .i64 0, .slice none 0 0, .int .i64 0] 24)).cell? ⟨w.heap.size + 1, 0, none⟩ = some (.int .i64 k) := KV_7.out.c 0 rfl
  have xV1 : (((w.alloc (.cells #[.int .i64 id, .slice a l.length cap, .int .i64 tag] 24)).alloc (.cells #[.int .i64 k, .int .i64 v] 26)).alloc (.cells #[.int .i64 0, .slice none 0 0, .int .i64 0] 24)).cell? ⟨w.heap.size + 1, 1, none⟩ = some (.int .i64 v) := KV_7.out.c 1 rfl
  have zV : w.heap.size + 1 < (((w.alloc (.cells #[.int .i64 id, .slice a l.length cap, .int .i64 tag] 24)).alloc (.cells #[.int .i64 k, .int .i64 v] 26)).alloc (.cells #[.int .i64 0, .slice none 0 0, .int .i64 0] 24)).heap.size := KV_7.out.2.2
  have z2V : w.heap.size + 1 < (((w.alloc (.cells #[.int .i64 id, .slice a l.length cap, .int .i64 tag] 24)).alloc (.cells #[.int .i64 k, .int .i64 v] 26)).alloc (.cells #[.int .i64 0, .slice none 0 0, .int .i64 0] 24)).heap.size + 1 := by omega
  go_wp2_with fail
  refine (rcap_any id tag _ l _ (H.out.step HB9.out)).mono ?_
  rintro e u1 ⟨rfl, b1⟩
  clear xA0 xA1 xA2 zA z2A xV0 xV1 zV z2V
  have KA_10 := Lib.hid (KA_6.out.step b1)
  clear KA_6
  have KV_11 := Lib.hid (KV_7.out.step b1)
  clear KV_7
  have KR_12 := Lib.hid (KR_8.out.step b1)
  clear KR_8
  have HB13 := Lib.hid (keep2 b1 HB9.out)
  clear HB9 b1
  rw [HC.out]
  have xV0 : u1.cell? ⟨w.heap.size + 1, 0, none⟩ = some (.int .i64 k) := KV_11.out.c 0 rfl
  have xV1 : u1.cell? ⟨w.heap.size + 1, 1, none⟩ = some (.int .i64 v) := KV_11.out.c 1 rfl
  have zV : w.heap.size + 1 < u1.heap.size := KV_11.out.2.2
  have z2V : w.heap.size + 1 < u1.heap.size + 1 := by omega
  go_wp2_with fail
  refine (rcaveat_any k v _).mono ?_
  rintro e u2 ⟨rfl, b2⟩
  clear xV0 xV1 zV z2V
  have KA_14 := Lib.hid (KA_10.out.step b2)
  clear KA_10
  have KV_15 := Lib.hid (KV_11.out.step b2)
  clear KV_11
  have KR_16 := Lib.hid (KR_12.out.step b2)
  clear KR_12
  have HB17 := Lib.hid (keep2 b2 HB13.out)
  clear HB13 b2
  rw [HV.out]
  have xA0 : u2.cell? ⟨w.heap.size, 0, none⟩ = some (.int .i64 id) := KA_14.out.c 0 rfl
  have xA1 : u2.cell? ⟨w.heap.size, 1, none⟩ = some (.slice a l.length cap) := KA_14.out.c 1 rfl
  have xA2 : u2.cell? ⟨w.heap.size, 2, none⟩ = some (.int .i64 tag) := KA_14.out.c 2 rfl
  have zA : w.heap.size < u2.heap.size := KA_14.out.2.2
  have z2A : w.heap.size < u2.heap.size + 1 := by omega
  have xR0 : u2.cell? ⟨w.heap.size + 1 + 1, 0, none⟩ = some (.int .i64 0) := KR_16.out.c 0 rfl
  have yR0 : u2.frozen? ⟨w.heap.size + 1 + 1, 0, none⟩ = false := KR_16.out.f 0 (by simp)
  have xR1 : u2.cell? ⟨w.heap.size + 1 + 1, 1, none⟩ = some (.slice none 0 0) := KR_16.out.c 1 rfl
  have yR1 : u2.frozen? ⟨w.heap.size + 1 + 1, 1, none⟩ = false := KR_16.out.f 1 (by simp)
  have xR2 : u2.cell? ⟨w.heap.size + 1 + 1, 2, none⟩ = some (.int .i64 0) := KR_16.out.c 2 rfl
  have yR2 : u2.frozen? ⟨w.heap.size + 1 + 1, 2, none⟩ = false := KR_16.out.f 2 (by simp)
  have zR : w.heap.size + 1 + 1 < u2.heap.size := KR_16.out.2.2
  have z2R : w.heap.size + 1 + 1 < u2.heap.size + 1 := by omega
  go_wp2
  exact bodyPost_ret (v := .tuple #[.agg #[.int .i64 0, .slice none 0 0, .int .i64 0], .int .i64 30]) (by simp [results, Try.results11, go_sem, xR0, xR1, xR2]) rfl ⟨rfl, (by repeat (first | with_reducible exact HB17.out | with_reducible exact Below.refl _ _ | ((with_reducible refine Below.setCell ?_ ?_ _); rotate_left; focus (first | (simp; done) | (simp; omega) | omega)) | ((with_reducible refine Below.alloc ?_ ?_ _); rotate_left; focus (first | (simp; done) | (simp; omega) | omega)) | with_reducible refine Below.trans ?_ (below_drewN' _ _ _) | with_reducible refine Below.trans ?_ (below_drew _ _)))⟩
end Go.Proofs.Ytdifgdnndmikaaa
