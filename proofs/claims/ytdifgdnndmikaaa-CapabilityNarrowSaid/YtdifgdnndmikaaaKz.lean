/- Capabilities: law CapabilityNarrow, the walk. -/
import Derived.Test.YtdifgdnndmikaaaKga
namespace Go.Proofs.Ytdifgdnndmikaaa
open Go.RowKit

theorem ints_take {w : World} {a : Option Addr} {c n : Nat} {l m : List Int} (h : IntsAt w (.slice a n c) (l ++ m)) : IntsAt w (.slice a l.length c) l := by
  obtain ⟨a', c', hv, hm, hc⟩ := h
  cases hv
  refine ⟨_, _, rfl, by simp at hm; omega, fun hl => ?_⟩
  obtain ⟨b, off, ha, hx⟩ := hc (by simp [hl])
  refine ⟨b, off, ha, fun i x hi => hx i x ?_⟩
  rw [List.getElem?_append_left (List.getElem?_eq_some_iff.1 hi).1]
  exact hi
theorem cvs_one (w : World) (k v : Int) : CvsAt (w.alloc (.cells #[.int .i64 k, .int .i64 v] 26)) (.slice (some ⟨w.heap.size, 0, none⟩) 1 1) [⟨k, v⟩] := by
  have h := Cs.new w w.heap.size #[.int .i64 k, .int .i64 v] 26 rfl
  refine ⟨_, 1, rfl, by simp, by unfold maxLen; simp, fun _ => ⟨_, 0, rfl, fun i x hx => ?_⟩⟩
  rcases i with _ | i
  · cases hx; exact ⟨h.c 0 rfl, h.c 1 rfl⟩
  · cases hx
set_option maxRecDepth 100000 in
set_option maxHeartbeats 4000000 in
theorem narrow_len (key id : Int) (sl : Value) (l : List Cv) (ck cz r v x t u : Int) (w : World) (h : CvsAt w sl l) (hl : 12 < l.length) : Calls Try.prog 4 #[.int .i64 key, .int .i64 id, sl, .agg #[.int .i64 ck, .int .i64 cz], .agg #[.int .i64 r, .int .i64 v, .int .i64 x, .int .i64 t], .int .i64 u] w fun e w' => e = .returned (.bool true) ∧ Below w.heap.size w w' := by
  have H := Lib.hid h
  obtain ⟨a, cap, rfl, -, hm, -⟩ := h
  unfold maxLen at hm
  have hg : decide ((l.length : Int) > 12) = true := by simp; omega
  have hg2 : decide ((12 : Int) < l.length) = true := by simp; omega
  have HB0 := Lib.hid (Below.refl w.heap.size w)
  go_enter Try.func4, Try.ntmps4
  have KV_1 := Lib.hid (Cs.new w (w.heap.size) #[.int .i64 ck, .int .i64 cz] 26 (by simp))
  have HB2 : Hid (Below w.heap.size w (w.alloc (.cells #[.int .i64 ck, .int .i64 cz] 26))) := HB0.out.alloc HB0.out.size _
  clear HB0
  have KV_3 := Lib.hid (KV_1.out.alloc (.cells #[.int .i64 r, .int .i64 v, .int .i64 x, .int .i64 t] 28))
  clear KV_1
  have KK_4 := Lib.hid (Cs.new (w.alloc (.cells #[.int .i64 ck, .int .i64 cz] 26)) (w.heap.size + 1) #[.int .i64 r, .int .i64 v, .int .i64 x, .int .i64 t] 28 (by simp))
  have HB5 : Hid (Below w.heap.size w ((w.alloc (.cells #[.int .i64 ck, .int .i64 cz] 26)).alloc (.cells #[.int .i64 r, .int .i64 v, .int .i64 x, .int .i64 t] 28))) := HB2.out.alloc HB2.out.size _
  clear HB2
  go_wp2_with fail
  refine (head_any _).mono ?_
  rintro e u1 ⟨rfl, b1⟩
  have KV_6 := Lib.hid (KV_3.out.step b1)
  clear KV_3
  have KK_7 := Lib.hid (KK_4.out.step b1)
  clear KK_4
  have HB8 := Lib.hid (keep2 b1 HB5.out)
  clear HB5 b1
  go_wp2
  go_ret
  exact ⟨rfl, (by repeat (first | with_reducible exact HB8.out | with_reducible exact Below.refl _ _ | ((with_reducible refine Below.setCell ?_ ?_ _); rotate_left; focus (first | (simp; done) | (simp; omega) | omega)) | ((with_reducible refine Below.alloc ?_ ?_ _); rotate_left; focus (first | (simp; done) | (simp; omega) | omega)) | with_reducible refine Below.trans ?_ (below_drewN' _ _ _) | with_reducible refine Below.trans ?_ (below_drew _ _)))⟩
set_option maxRecDepth 100000 in
set_option maxHeartbeats 4000000 in
theorem narrow_md (key id : Int) (sl : Value) (l : List Cv) (ck cz r v x t u : Int) (w : World) (h : CvsAt w sl l) (hl : l.length ≤ 12) (hM : mdB key id l = false) : Calls Try.prog 4 #[.int .i64 key, .int .i64 id, sl, .agg #[.int .i64 ck, .int .i64 cz], .agg #[.int .i64 r, .int .i64 v, .int .i64 x, .int .i64 t], .int .i64 u] w fun e w' => e = .returned (.bool true) ∧ Below w.heap.size w w' := by
  have H := Lib.hid h
  obtain ⟨a, cap, rfl, -, hm, -⟩ := h
  unfold maxLen at hm
  have HM := Lib.hid hM
  clear hM
  have hg : decide ((l.length : Int) > 12) = false := by simp; omega
  have hg2 : decide ((12 : Int) < l.length) = false := by simp; omega
  have HB0 := Lib.hid (Below.refl w.heap.size w)
  go_enter Try.func4, Try.ntmps4
  have KV_1 := Lib.hid (Cs.new w (w.heap.size) #[.int .i64 ck, .int .i64 cz] 26 (by simp))
  have HB2 : Hid (Below w.heap.size w (w.alloc (.cells #[.int .i64 ck, .int .i64 cz] 26))) := HB0.out.alloc HB0.out.size _
  clear HB0
  have KV_3 := Lib.hid (KV_1.out.alloc (.cells #[.int .i64 r, .int .i64 v, .int .i64 x, .int .i64 t] 28))
  clear KV_1
  have KK_4 := Lib.hid (Cs.new (w.alloc (.cells #[.int .i64 ck, .int .i64 cz] 26)) (w.heap.size + 1) #[.int .i64 r, .int .i64 v, .int .i64 x, .int .i64 t] 28 (by simp))
  have HB5 : Hid (Below w.heap.size w ((w.alloc (.cells #[.int .i64 ck, .int .i64 cz] 26)).alloc (.cells #[.int .i64 r, .int .i64 v, .int .i64 x, .int .i64 t] 28))) := HB2.out.alloc HB2.out.size _
  clear HB2
  go_wp2_with fail
  refine (head_any _).mono ?_
  rintro e u1 ⟨rfl, b1⟩
  have KV_6 := Lib.hid (KV_3.out.step b1)
  clear KV_3
  have KK_7 := Lib.hid (KK_4.out.step b1)
  clear KK_4
  have HB8 := Lib.hid (keep2 b1 HB5.out)
  clear HB5 b1
  go_wp2_with fail
  refine (minted_any key id _ l _ (H.out.step HB8.out)).mono ?_
  rintro e u20 ⟨vr, rfl, hmd, b20⟩
  rw [HM.out]
  obtain ⟨i1, t1, sl1, m, rfl, hs, hq⟩ := hmd
  have KV_9 := Lib.hid (KV_6.out.step b20)
  clear KV_6
  have KK_10 := Lib.hid (KK_7.out.step b20)
  clear KK_7
  have HB11 := Lib.hid (keep2 b20 HB8.out)
  clear HB8 b20
  obtain ⟨sa, sc, rfl, -⟩ := hs
  clear hq
  have KV_12 := Lib.hid (KV_9.out.alloc (.cells #[.int .i64 i1, .slice sa m.length sc, .int .i64 t1] 24))
  clear KV_9
  have KK_13 := Lib.hid (KK_10.out.alloc (.cells #[.int .i64 i1, .slice sa m.length sc, .int .i64 t1] 24))
  clear KK_10
  have HB14 : Hid (Below w.heap.size w (u20.alloc (.cells #[.int .i64 i1, .slice sa m.length sc, .int .i64 t1] 24))) := HB11.out.alloc HB11.out.size _
  clear HB11
  go_wp2
  go_ret
  exact ⟨rfl, (by repeat (first | with_reducible exact HB14.out | with_reducible exact Below.refl _ _ | ((with_reducible refine Below.setCell ?_ ?_ _); rotate_left; focus (first | (simp; done) | (simp; omega) | omega)) | ((with_reducible refine Below.alloc ?_ ?_ _); rotate_left; focus (first | (simp; done) | (simp; omega) | omega)) | with_reducible refine Below.trans ?_ (below_drewN' _ _ _) | with_reducible refine Below.trans ?_ (below_drew _ _)))⟩
set_option maxRecDepth 100000 in
set_option maxHeartbeats 4000000 in
theorem narrow_e1 (key id : Int) (sl : Value) (l : List Cv) (ck cz r v x t u : Int) (w : World) (h : CvsAt w sl l) (hl : l.length ≤ 12) (hM : mdB key id l = true) (hn : nrE id (tk (tg0 key id) l l.length) l ck cz = 1) : Calls Try.prog 4 #[.int .i64 key, .int .i64 id, sl, .agg #[.int .i64 ck, .int .i64 cz], .agg #[.int .i64 r, .int .i64 v, .int .i64 x, .int .i64 t], .int .i64 u] w fun e w' => e = .returned (.bool true) ∧ Below w.heap.size w w' := by
  have H := Lib.hid h
  obtain ⟨a, cap, rfl, -, hm, -⟩ := h
  unfold maxLen at hm
  have HM := Lib.hid hM
  have HE := Lib.hid (show ∀ T : Int, tk (tg0 key id) l l.length = T → nrE id T l ck cz = 1 from fun T h => by rw [← h]; exact hn)
  clear hM hn
  have hg : decide ((l.length : Int) > 12) = false := by simp; omega
  have hg2 : decide ((12 : Int) < l.length) = false := by simp; omega
  have HB0 := Lib.hid (Below.refl w.heap.size w)
  go_enter Try.func4, Try.ntmps4
  have KV_1 := Lib.hid (Cs.new w (w.heap.size) #[.int .i64 ck, .int .i64 cz] 26 (by simp))
  have HB2 : Hid (Below w.heap.size w (w.alloc (.cells #[.int .i64 ck, .int .i64 cz] 26))) := HB0.out.alloc HB0.out.size _
  clear HB0
  have KV_3 := Lib.hid (KV_1.out.alloc (.cells #[.int .i64 r, .int .i64 v, .int .i64 x, .int .i64 t] 28))
  clear KV_1
  have KK_4 := Lib.hid (Cs.new (w.alloc (.cells #[.int .i64 ck, .int .i64 cz] 26)) (w.heap.size + 1) #[.int .i64 r, .int .i64 v, .int .i64 x, .int .i64 t] 28 (by simp))
  have HB5 : Hid (Below w.heap.size w ((w.alloc (.cells #[.int .i64 ck, .int .i64 cz] 26)).alloc (.cells #[.int .i64 r, .int .i64 v, .int .i64 x, .int .i64 t] 28))) := HB2.out.alloc HB2.out.size _
  clear HB2
  go_wp2_with fail
  refine (head_any _).mono ?_
  rintro e u1 ⟨rfl, b1⟩
  have KV_6 := Lib.hid (KV_3.out.step b1)
  clear KV_3
  have KK_7 := Lib.hid (KK_4.out.step b1)
  clear KK_4
  have HB8 := Lib.hid (keep2 b1 HB5.out)
  clear HB5 b1
  go_wp2_with fail
  refine (minted_any key id _ l _ (H.out.step HB8.out)).mono ?_
  rintro e u20 ⟨vr, rfl, hmd, b20⟩
  rw [HM.out]
  obtain ⟨i1, t1, sl1, m, rfl, hs, hq⟩ := hmd
  have KV_9 := Lib.hid (KV_6.out.step b20)
  clear KV_6
  have KK_10 := Lib.hid (KK_7.out.step b20)
  clear KK_7
  have HB11 := Lib.hid (keep2 b20 HB8.out)
  clear HB8 b20
  obtain ⟨q1, q2, q3⟩ := hq HM.out
  clear hq
  have q1 := q1.symm
  have q2 := q2.symm
  have q3 := q3.symm
  subst q1 q2 q3
  obtain ⟨T, hT⟩ : ∃ T, tk (tg0 key id) l l.length = T := ⟨_, rfl⟩
  rw [hT]
  have HS := Lib.hid hs
  obtain ⟨sa, sc, rfl, -⟩ := hs
  have KV_12 := Lib.hid (KV_9.out.alloc (.cells #[.int .i64 id, .slice sa l.length sc, .int .i64 T] 24))
  clear KV_9
  have KK_13 := Lib.hid (KK_10.out.alloc (.cells #[.int .i64 id, .slice sa l.length sc, .int .i64 T] 24))
  clear KK_10
  have KC_14 := Lib.hid (Cs.new u20 (u20.heap.size) #[.int .i64 id, .slice sa l.length sc, .int .i64 T] 24 (by simp))
  have HB15 : Hid (Below w.heap.size w (u20.alloc (.cells #[.int .i64 id, .slice sa l.length sc, .int .i64 T] 24))) := HB11.out.alloc HB11.out.size _
  clear HB11
  have xV0 : (u20.alloc (.cells #[.int .i64 id, .slice sa l.length sc, .int .i64 T] 24)).cell? ⟨w.heap.size, 0, none⟩ = some (.int .i64 ck) := KV_12.out.c 0 rfl
  have xV1 : (u20.alloc (.cells #[.int .i64 id, .slice sa l.length sc, .int .i64 T] 24)).cell? ⟨w.heap.size, 1, none⟩ = some (.int .i64 cz) := KV_12.out.c 1 rfl
  have zV : w.heap.size < (u20.alloc (.cells #[.int .i64 id, .slice sa l.length sc, .int .i64 T] 24)).heap.size := KV_12.out.2.2
  have z2V : w.heap.size < (u20.alloc (.cells #[.int .i64 id, .slice sa l.length sc, .int .i64 T] 24)).heap.size + 1 := by omega
  have xC0 : (u20.alloc (.cells #[.int .i64 id, .slice sa l.length sc, .int .i64 T] 24)).cell? ⟨u20.heap.size, 0, none⟩ = some (.int .i64 id) := KC_14.out.c 0 rfl
  have xC1 : (u20.alloc (.cells #[.int .i64 id, .slice sa l.length sc, .int .i64 T] 24)).cell? ⟨u20.heap.size, 1, none⟩ = some (.slice sa l.length sc) := KC_14.out.c 1 rfl
  have xC2 : (u20.alloc (.cells #[.int .i64 id, .slice sa l.length sc, .int .i64 T] 24)).cell? ⟨u20.heap.size, 2, none⟩ = some (.int .i64 T) := KC_14.out.c 2 rfl
  have zC : u20.heap.size < (u20.alloc (.cells #[.int .i64 id, .slice sa l.length sc, .int .i64 T] 24)).heap.size := KC_14.out.2.2
  have z2C : u20.heap.size < (u20.alloc (.cells #[.int .i64 id, .slice sa l.length sc, .int .i64 T] 24)).heap.size + 1 := by omega
  replace HS := Lib.hid (HS.out.step (show Below u20.heap.size u20 (u20.alloc (.cells #[.int .i64 id, .slice sa l.length sc, .int .i64 T] 24)) from al _ _))
  go_wp2_with fail
  refine (narrow_any id T ck cz _ l _ HS.out).mono ?_
  rintro e u21 ⟨vr, rfl, b21, hp1, hp2⟩
  replace HS := Lib.hid (HS.out.step b21)
  clear xV0 xV1 zV z2V xC0 xC1 xC2 zC z2C
  have KV_16 := Lib.hid (KV_12.out.step b21)
  clear KV_12
  have KK_17 := Lib.hid (KK_13.out.step b21)
  clear KK_13
  have KC_18 := Lib.hid (KC_14.out.step b21)
  clear KC_14
  have HB19 := Lib.hid (keep2 b21 HB15.out)
  clear HB15 b21
  rw [HE.out _ hT] at hp1 hp2 ⊢
  obtain rfl := hp2 (by decide)
  clear hp1 hp2 hT
  have KV_20 := Lib.hid (KV_16.out.alloc (.cells #[.int .i64 0, .slice none 0 0, .int .i64 0] 24))
  clear KV_16
  have KK_21 := Lib.hid (KK_17.out.alloc (.cells #[.int .i64 0, .slice none 0 0, .int .i64 0] 24))
  clear KK_17
  have KC_22 := Lib.hid (KC_18.out.alloc (.cells #[.int .i64 0, .slice none 0 0, .int .i64 0] 24))
  clear KC_18
  have HB23 : Hid (Below w.heap.size w (u21.alloc (.cells #[.int .i64 0, .slice none 0 0, .int .i64 0] 24))) := HB19.out.alloc HB19.out.size _
  clear HB19
  go_wp2
  go_ret
  exact ⟨rfl, (by repeat (first | with_reducible exact HB23.out | with_reducible exact Below.refl _ _ | ((with_reducible refine Below.setCell ?_ ?_ _); rotate_left; focus (first | (simp; done) | (simp; omega) | omega)) | ((with_reducible refine Below.alloc ?_ ?_ _); rotate_left; focus (first | (simp; done) | (simp; omega) | omega)) | with_reducible refine Below.trans ?_ (below_drewN' _ _ _) | with_reducible refine Below.trans ?_ (below_drew _ _)))⟩
set_option maxRecDepth 100000 in
set_option maxHeartbeats 4000000 in
theorem narrow_e30 (key id : Int) (sl : Value) (l : List Cv) (ck cz r v x t u : Int) (w : World) (h : CvsAt w sl l) (hl : l.length ≤ 12) (hM : mdB key id l = true) (h12 : l.length = 12) (hn : nrE id (tk (tg0 key id) l l.length) l ck cz = 30) : Calls Try.prog 4 #[.int .i64 key, .int .i64 id, sl, .agg #[.int .i64 ck, .int .i64 cz], .agg #[.int .i64 r, .int .i64 v, .int .i64 x, .int .i64 t], .int .i64 u] w fun e w' => e = .returned (.bool true) ∧ Below w.heap.size w w' := by
  have H := Lib.hid h
  obtain ⟨a, cap, rfl, -, hm, -⟩ := h
  unfold maxLen at hm
  have HM := Lib.hid hM
  have HE := Lib.hid (show ∀ T : Int, tk (tg0 key id) l l.length = T → nrE id T l ck cz = 30 from fun T h => by rw [← h]; exact hn)
  clear hM hn
  have hc1 : ((l.length : Int) == 12) = true := by simp; omega
  have hc2 : decide ((l.length : Int) = 12) = true := by simp; omega
  replace h12 := Lib.hid h12
  have hg : decide ((l.length : Int) > 12) = false := by simp; omega
  have hg2 : decide ((12 : Int) < l.length) = false := by simp; omega
  have HB0 := Lib.hid (Below.refl w.heap.size w)
  go_enter Try.func4, Try.ntmps4
  have KV_1 := Lib.hid (Cs.new w (w.heap.size) #[.int .i64 ck, .int .i64 cz] 26 (by simp))
  have HB2 : Hid (Below w.heap.size w (w.alloc (.cells #[.int .i64 ck, .int .i64 cz] 26))) := HB0.out.alloc HB0.out.size _
  clear HB0
  have KV_3 := Lib.hid (KV_1.out.alloc (.cells #[.int .i64 r, .int .i64 v, .int .i64 x, .int .i64 t] 28))
  clear KV_1
  have KK_4 := Lib.hid (Cs.new (w.alloc (.cells #[.int .i64 ck, .int .i64 cz] 26)) (w.heap.size + 1) #[.int .i64 r, .int .i64 v, .int .i64 x, .int .i64 t] 28 (by simp))
  have HB5 : Hid (Below w.heap.size w ((w.alloc (.cells #[.int .i64 ck, .int .i64 cz] 26)).alloc (.cells #[.int .i64 r, .int .i64 v, .int .i64 x, .int .i64 t] 28))) := HB2.out.alloc HB2.out.size _
  clear HB2
  go_wp2_with fail
  refine (head_any _).mono ?_
  rintro e u1 ⟨rfl, b1⟩
  have KV_6 := Lib.hid (KV_3.out.step b1)
  clear KV_3
  have KK_7 := Lib.hid (KK_4.out.step b1)
  clear KK_4
  have HB8 := Lib.hid (keep2 b1 HB5.out)
  clear HB5 b1
  go_wp2_with fail
  refine (minted_any key id _ l _ (H.out.step HB8.out)).mono ?_
  rintro e u20 ⟨vr, rfl, hmd, b20⟩
  rw [HM.out]
  obtain ⟨i1, t1, sl1, m, rfl, hs, hq⟩ := hmd
  have KV_9 := Lib.hid (KV_6.out.step b20)
  clear KV_6
  have KK_10 := Lib.hid (KK_7.out.step b20)
  clear KK_7
  have HB11 := Lib.hid (keep2 b20 HB8.out)
  clear HB8 b20
  obtain ⟨q1, q2, q3⟩ := hq HM.out
  clear hq
  have q1 := q1.symm
  have q2 := q2.symm
  have q3 := q3.symm
  subst q1 q2 q3
  obtain ⟨T, hT⟩ : ∃ T, tk (tg0 key id) l l.length = T := ⟨_, rfl⟩
  rw [hT]
  have HS := Lib.hid hs
  obtain ⟨sa, sc, rfl, -⟩ := hs
  have KV_12 := Lib.hid (KV_9.out.alloc (.cells #[.int .i64 id, .slice sa l.length sc, .int .i64 T] 24))
  clear KV_9
  have KK_13 := Lib.hid (KK_10.out.alloc (.cells #[.int .i64 id, .slice sa l.length sc, .int .i64 T] 24))
  clear KK_10
  have KC_14 := Lib.hid (Cs.new u20 (u20.heap.size) #[.int .i64 id, .slice sa l.length sc, .int .i64 T] 24 (by simp))
  have HB15 : Hid (Below w.heap.size w (u20.alloc (.cells #[.int .i64 id, .slice sa l.length sc, .int .i64 T] 24))) := HB11.out.alloc HB11.out.size _
  clear HB11
  have xV0 : (u20.alloc (.cells #[.int .i64 id, .slice sa l.length sc, .int .i64 T] 24)).cell? ⟨w.heap.size, 0, none⟩ = some (.int .i64 ck) := KV_12.out.c 0 rfl
  have xV1 : (u20.alloc (.cells #[.int .i64 id, .slice sa l.length sc, .int .i64 T] 24)).cell? ⟨w.heap.size, 1, none⟩ = some (.int .i64 cz) := KV_12.out.c 1 rfl
  have zV : w.heap.size < (u20.alloc (.cells #[.int .i64 id, .slice sa l.length sc, .int .i64 T] 24)).heap.size := KV_12.out.2.2
  have z2V : w.heap.size < (u20.alloc (.cells #[.int .i64 id, .slice sa l.length sc, .int .i64 T] 24)).heap.size + 1 := by omega
  have xC0 : (u20.alloc (.cells #[.int .i64 id, .slice sa l.length sc, .int .i64 T] 24)).cell? ⟨u20.heap.size, 0, none⟩ = some (.int .i64 id) := KC_14.out.c 0 rfl
  have xC1 : (u20.alloc (.cells #[.int .i64 id, .slice sa l.length sc, .int .i64 T] 24)).cell? ⟨u20.heap.size, 1, none⟩ = some (.slice sa l.length sc) := KC_14.out.c 1 rfl
  have xC2 : (u20.alloc (.cells #[.int .i64 id, .slice sa l.length sc, .int .i64 T] 24)).cell? ⟨u20.heap.size, 2, none⟩ = some (.int .i64 T) := KC_14.out.c 2 rfl
  have zC : u20.heap.size < (u20.alloc (.cells #[.int .i64 id, .slice sa l.length sc, .int .i64 T] 24)).heap.size := KC_14.out.2.2
  have z2C : u20.heap.size < (u20.alloc (.cells #[.int .i64 id, .slice sa l.length sc, .int .i64 T] 24)).heap.size + 1 := by omega
  replace HS := Lib.hid (HS.out.step (show Below u20.heap.size u20 (u20.alloc (.cells #[.int .i64 id, .slice sa l.length sc, .int .i64 T] 24)) from al _ _))
  go_wp2_with fail
  refine (narrow_any id T ck cz _ l _ HS.out).mono ?_
  rintro e u21 ⟨vr, rfl, b21, hp1, hp2⟩
  replace HS := Lib.hid (HS.out.step b21)
  clear xV0 xV1 zV z2V xC0 xC1 xC2 zC z2C
  have KV_16 := Lib.hid (KV_12.out.step b21)
  clear KV_12
  have KK_17 := Lib.hid (KK_13.out.step b21)
  clear KK_13
  have KC_18 := Lib.hid (KC_14.out.step b21)
  clear KC_14
  have HB19 := Lib.hid (keep2 b21 HB15.out)
  clear HB15 b21
  rw [HE.out _ hT] at hp1 hp2 ⊢
  obtain rfl := hp2 (by decide)
  clear hp1 hp2 hT
  have KV_20 := Lib.hid (KV_16.out.alloc (.cells #[.int .i64 0, .slice none 0 0, .int .i64 0] 24))
  clear KV_16
  have KK_21 := Lib.hid (KK_17.out.alloc (.cells #[.int .i64 0, .slice none 0 0, .int .i64 0] 24))
  clear KK_17
  have KC_22 := Lib.hid (KC_18.out.alloc (.cells #[.int .i64 0, .slice none 0 0, .int .i64 0] 24))
  clear KC_18
  have HB23 : Hid (Below w.heap.size w (u21.alloc (.cells #[.int .i64 0, .slice none 0 0, .int .i64 0] 24))) := HB19.out.alloc HB19.out.size _
  clear HB19
  go_wp2
  go_ret
  exact ⟨rfl, (by repeat (first | with_reducible exact HB23.out | with_reducible exact Below.refl _ _ | ((with_reducible refine Below.setCell ?_ ?_ _); rotate_left; focus (first | (simp; done) | (simp; omega) | omega)) | ((with_reducible refine Below.alloc ?_ ?_ _); rotate_left; focus (first | (simp; done) | (simp; omega) | omega)) | with_reducible refine Below.trans ?_ (below_drewN' _ _ _) | with_reducible refine Below.trans ?_ (below_drew _ _)))⟩
set_option maxRecDepth 100000 in
set_option maxHeartbeats 4000000 in
theorem narrow_main (key id : Int) (sl : Value) (l : List Cv) (ck cz r v x t u : Int) (w : World) (h : CvsAt w sl l) (hl : l.length ≤ 12) (hM : mdB key id l = true) (hn : nrE id (tk (tg0 key id) l l.length) l ck cz = 0) : Calls Try.prog 4 #[.int .i64 key, .int .i64 id, sl, .agg #[.int .i64 ck, .int .i64 cz], .agg #[.int .i64 r, .int .i64 v, .int .i64 x, .int .i64 t], .int .i64 u] w fun e w' => e = .returned (.bool true) ∧ Below w.heap.size w w' := by
  have H := Lib.hid h
  obtain ⟨a, cap, rfl, -, hm, -⟩ := h
  unfold maxLen at hm
  have HM := Lib.hid hM
  have HE := Lib.hid (show ∀ T : Int, tk (tg0 key id) l l.length = T → nrE id T l ck cz = 0 from fun T h => by rw [← h]; exact hn)
  have HG1 := Lib.hid (md_parts hM)
  have HG2 := Lib.hid (nr_parts (c := ⟨ck, cz⟩) hM hn)
  have HCH := Lib.hid (ch_one (c := ⟨ck, cz⟩) hM hn)
  have HPM := Lib.hid (pm_add (c := ⟨ck, cz⟩) (r := r) (v := v) (x := x) (t := t) (u := u) hM hn)
  clear hM hn
  have hg : decide ((l.length : Int) > 12) = false := by simp; omega
  have hg2 : decide ((12 : Int) < l.length) = false := by simp; omega
  have HB0 := Lib.hid (Below.refl w.heap.size w)
  go_enter Try.func4, Try.ntmps4
  have KV_1 := Lib.hid (Cs.new w (w.heap.size) #[.int .i64 ck, .int .i64 cz] 26 (by simp))
  have HB2 : Hid (Below w.heap.size w (w.alloc (.cells #[.int .i64 ck, .int .i64 cz] 26))) := HB0.out.alloc HB0.out.size _
  clear HB0
  have KV_3 := Lib.hid (KV_1.out.alloc (.cells #[.int .i64 r, .int .i64 v, .int .i64 x, .int .i64 t] 28))
  clear KV_1
  have KK_4 := Lib.hid (Cs.new (w.alloc (.cells #[.int .i64 ck, .int .i64 cz] 26)) (w.heap.size + 1) #[.int .i64 r, .int .i64 v, .int .i64 x, .int .i64 t] 28 (by simp))
  have HB5 : Hid (Below w.heap.size w ((w.alloc (.cells #[.int .i64 ck, .int .i64 cz] 26)).alloc (.cells #[.int .i64 r, .int .i64 v, .int .i64 x, .int .i64 t] 28))) := HB2.out.alloc HB2.out.size _
  clear HB2
  go_wp2_with fail
  refine (head_any _).mono ?_
  rintro e u1 ⟨rfl, b1⟩
  have KV_6 := Lib.hid (KV_3.out.step b1)
  clear KV_3
  have KK_7 := Lib.hid (KK_4.out.step b1)
  clear KK_4
  have HB8 := Lib.hid (keep2 b1 HB5.out)
  clear HB5 b1
  go_wp2_with fail
  refine (minted_any key id _ l _ (H.out.step HB8.out)).mono ?_
  rintro e u20 ⟨vr, rfl, hmd, b20⟩
  rw [HM.out]
  obtain ⟨i1, t1, sl1, m, rfl, hs, hq⟩ := hmd
  have KV_9 := Lib.hid (KV_6.out.step b20)
  clear KV_6
  have KK_10 := Lib.hid (KK_7.out.step b20)
  clear KK_7
  have HB11 := Lib.hid (keep2 b20 HB8.out)
  clear HB8 b20
  obtain ⟨q1, q2, q3⟩ := hq HM.out
  clear hq
  have q1 := q1.symm
  have q2 := q2.symm
  have q3 := q3.symm
  subst q1 q2 q3
  obtain ⟨T, hT⟩ : ∃ T, tk (tg0 key id) l l.length = T := ⟨_, rfl⟩
  rw [hT]
  have HS := Lib.hid hs
  obtain ⟨sa, sc, rfl, -⟩ := hs
  have KV_12 := Lib.hid (KV_9.out.alloc (.cells #[.int .i64 id, .slice sa l.length sc, .int .i64 T] 24))
  clear KV_9
  have KK_13 := Lib.hid (KK_10.out.alloc (.cells #[.int .i64 id, .slice sa l.length sc, .int .i64 T] 24))
  clear KK_10
  have KC_14 := Lib.hid (Cs.new u20 (u20.heap.size) #[.int .i64 id, .slice sa l.length sc, .int .i64 T] 24 (by simp))
  have HB15 : Hid (Below w.heap.size w (u20.alloc (.cells #[.int .i64 id, .slice sa l.length sc, .int .i64 T] 24))) := HB11.out.alloc HB11.out.size _
  clear HB11
  have xV0 : (u20.alloc (.cells #[.int .i64 id, .slice sa l.length sc, .int .i64 T] 24)).cell? ⟨w.heap.size, 0, none⟩ = some (.int .i64 ck) := KV_12.out.c 0 rfl
  have xV1 : (u20.alloc (.cells #[.int .i64 id, .slice sa l.length sc, .int .i64 T] 24)).cell? ⟨w.heap.size, 1, none⟩ = some (.int .i64 cz) := KV_12.out.c 1 rfl
  have zV : w.heap.size < (u20.alloc (.cells #[.int .i64 id, .slice sa l.length sc, .int .i64 T] 24)).heap.size := KV_12.out.2.2
  have z2V : w.heap.size < (u20.alloc (.cells #[.int .i64 id, .slice sa l.length sc, .int .i64 T] 24)).heap.size + 1 := by omega
  have xC0 : (u20.alloc (.cells #[.int .i64 id, .slice sa l.length sc, .int .i64 T] 24)).cell? ⟨u20.heap.size, 0, none⟩ = some (.int .i64 id) := KC_14.out.c 0 rfl
  have xC1 : (u20.alloc (.cells #[.int .i64 id, .slice sa l.length sc, .int .i64 T] 24)).cell? ⟨u20.heap.size, 1, none⟩ = some (.slice sa l.length sc) := KC_14.out.c 1 rfl
  have xC2 : (u20.alloc (.cells #[.int .i64 id, .slice sa l.length sc, .int .i64 T] 24)).cell? ⟨u20.heap.size, 2, none⟩ = some (.int .i64 T) := KC_14.out.c 2 rfl
  have zC : u20.heap.size < (u20.alloc (.cells #[.int .i64 id, .slice sa l.length sc, .int .i64 T] 24)).heap.size := KC_14.out.2.2
  have z2C : u20.heap.size < (u20.alloc (.cells #[.int .i64 id, .slice sa l.length sc, .int .i64 T] 24)).heap.size + 1 := by omega
  replace HS := Lib.hid (HS.out.step (show Below u20.heap.size u20 (u20.alloc (.cells #[.int .i64 id, .slice sa l.length sc, .int .i64 T] 24)) from al _ _))
  go_wp2_with fail
  refine (narrow_any id T ck cz _ l _ HS.out).mono ?_
  rintro e u21 ⟨vr, rfl, b21, hp1, hp2⟩
  replace HS := Lib.hid (HS.out.step b21)
  clear xV0 xV1 zV z2V xC0 xC1 xC2 zC z2C
  have KV_16 := Lib.hid (KV_12.out.step b21)
  clear KV_12
  have KK_17 := Lib.hid (KK_13.out.step b21)
  clear KK_13
  have KC_18 := Lib.hid (KC_14.out.step b21)
  clear KC_14
  have HB19 := Lib.hid (keep2 b21 HB15.out)
  clear HB15 b21
  rw [HE.out _ hT] at hp1 hp2 ⊢
  obtain ⟨u2, rfl, hs2⟩ := hp1 rfl
  clear hp1 hp2
  rw [hT] at HG1 HG2 HCH HPM
  clear HE
  obtain ⟨T2, hT2⟩ : ∃ T2, tgN T ⟨ck, cz⟩ = T2 := ⟨_, rfl⟩
  rw [hT2] at HG2 HCH HPM ⊢
  clear hT hT2
  have HS2 := Lib.hid hs2
  obtain ⟨sb, sd, rfl, -⟩ := hs2
  have hln : (l ++ [(⟨ck, cz⟩ : Cv)]).length = l.length + 1 := by simp
  rw [hln] at HS2 ⊢
  clear hln
  have KV_20 := Lib.hid (KV_16.out.alloc (.cells #[.int .i64 id, .slice sb (l.length + 1) sd, .int .i64 T2] 24))
  clear KV_16
  have KK_21 := Lib.hid (KK_17.out.alloc (.cells #[.int .i64 id, .slice sb (l.length + 1) sd, .int .i64 T2] 24))
  clear KK_17
  have KC_22 := Lib.hid (KC_18.out.alloc (.cells #[.int .i64 id, .slice sb (l.length + 1) sd, .int .i64 T2] 24))
  clear KC_18
  have KD_23 := Lib.hid (Cs.new u21 (u21.heap.size) #[.int .i64 id, .slice sb (l.length + 1) sd, .int .i64 T2] 24 (by simp))
  have HB24 : Hid (Below w.heap.size w (u21.alloc (.cells #[.int .i64 id, .slice sb (l.length + 1) sd, .int .i64 T2] 24))) := HB19.out.alloc HB19.out.size _
  clear HB19
  replace HS := Lib.hid (HS.out.step (show Below u21.heap.size u21 (u21.alloc (.cells #[.int .i64 id, .slice sb (l.length + 1) sd, .int .i64 T2] 24)) from al _ _))
  replace HS2 := Lib.hid (HS2.out.step (show Below u21.heap.size u21 (u21.alloc (.cells #[.int .i64 id, .slice sb (l.length + 1) sd, .int .i64 T2] 24)) from al _ _))
  have xC0 : (u21.alloc (.cells #[.int .i64 id, .slice sb (l.length + 1) sd, .int .i64 T2] 24)).cell? ⟨u20.heap.size, 0, none⟩ = some (.int .i64 id) := KC_22.out.c 0 rfl
  have xC1 : (u21.alloc (.cells #[.int .i64 id, .slice sb (l.length + 1) sd, .int .i64 T2] 24)).cell? ⟨u20.heap.size, 1, none⟩ = some (.slice sa l.length sc) := KC_22.out.c 1 rfl
  have xC2 : (u21.alloc (.cells #[.int .i64 id, .slice sb (l.length + 1) sd, .int .i64 T2] 24)).cell? ⟨u20.heap.size, 2, none⟩ = some (.int .i64 T) := KC_22.out.c 2 rfl
  have zC : u20.heap.size < (u21.alloc (.cells #[.int .i64 id, .slice sb (l.length + 1) sd, .int .i64 T2] 24)).heap.size := KC_22.out.2.2
  have z2C : u20.heap.size < (u21.alloc (.cells #[.int .i64 id, .slice sb (l.length + 1) sd, .int .i64 T2] 24)).heap.size + 1 := by omega
  go_wp2_with fail
  refine (chain2_anyC key id T _ (l) _ HS.out).mono ?_
  rintro e u22 ⟨cA, rfl, hcA, bu22⟩
  replace HS := Lib.hid (HS.out.step bu22)
  replace HS2 := Lib.hid (HS2.out.step bu22)
  clear xC0 xC1 xC2 zC z2C
  have KV_25 := Lib.hid (KV_20.out.step bu22)
  clear KV_20
  have KK_26 := Lib.hid (KK_21.out.step bu22)
  clear KK_21
  have KC_27 := Lib.hid (KC_22.out.step bu22)
  clear KC_22
  have KD_28 := Lib.hid (KD_23.out.step bu22)
  clear KD_23
  have HB29 := Lib.hid (keep2 bu22 HB24.out)
  clear HB24 bu22
  obtain ⟨hcA, aA, kA, rfl, hkA⟩ := hcA
  have HI1 := Lib.hid hcA
  clear hcA
  have xD0 : u22.cell? ⟨u21.heap.size, 0, none⟩ = some (.int .i64 id) := KD_28.out.c 0 rfl
  have xD1 : u22.cell? ⟨u21.heap.size, 1, none⟩ = some (.slice sb (l.length + 1) sd) := KD_28.out.c 1 rfl
  have xD2 : u22.cell? ⟨u21.heap.size, 2, none⟩ = some (.int .i64 T2) := KD_28.out.c 2 rfl
  have zD : u21.heap.size < u22.heap.size := KD_28.out.2.2
  have z2D : u21.heap.size < u22.heap.size + 1 := by omega
  replace HI1 := HI1
  go_wp2_with fail
  refine (chain2_anyC key id T2 _ (l ++ [⟨ck, cz⟩]) _ HS2.out).mono ?_
  rintro e u23 ⟨cB, rfl, hcB, bu23⟩
  replace HS := Lib.hid (HS.out.step bu23)
  replace HS2 := Lib.hid (HS2.out.step bu23)
  replace HI1 := Lib.hid (HI1.out.step bu23)
  clear xD0 xD1 xD2 zD z2D
  have KV_30 := Lib.hid (KV_25.out.step bu23)
  clear KV_25
  have KK_31 := Lib.hid (KK_26.out.step bu23)
  clear KK_26
  have KC_32 := Lib.hid (KC_27.out.step bu23)
  clear KC_27
  have KD_33 := Lib.hid (KD_28.out.step bu23)
  clear KD_28
  have HB34 := Lib.hid (keep2 bu23 HB29.out)
  clear HB29 bu23
  obtain ⟨B1, hB1⟩ : ∃ B1, chB key id T l = B1 := ⟨_, rfl⟩
  rw [hB1] at HI1 HCH hkA ⊢
  clear hB1
  have hCl := HCH.out.2
  rw [HCH.out.1] at hcB
  obtain ⟨hcB, aB, kB, rfl, hkB⟩ := hcB
  have HI2 := Lib.hid hcB
  obtain ⟨cb, co, rfl, hcx⟩ : ∃ cb co, aB = some ⟨cb, co, none⟩ ∧ u23.cell? ⟨cb, co + B1.length, none⟩ = some (.int .i64 T2) := by
    obtain ⟨a9, c9, hv9, -, hx9⟩ := hcB
    obtain ⟨b9, o9, ha9, hy9⟩ := hx9 (by simp)
    cases hv9
    exact ⟨b9, o9, ha9, hy9 _ _ (by simp)⟩
  clear hcB
  have HX := Lib.hid hcx
  clear hcx
  rw [show (B1 ++ [T2]).length = B1.length + 1 by simp] at HI2 hkB ⊢
  have HI3 := Lib.hid (ints_take HI2.out)
  clear HI2
  obtain ⟨n1, hn1⟩ : ∃ n1, B1.length = n1 := ⟨_, rfl⟩
  rw [hn1] at HI1 HI3 HX hkA hkB hCl ⊢
  replace hn1 := Lib.hid hn1
  have hn13 : n1 ≤ 13 := by omega
  clear HCH hCl hkA
  go_wp2_with fail
  obtain ⟨lit, hlit⟩ : ∃ lit : (Nat → Value) → Act, lit = fun vs => { tmps := List.toArray (Value.int IntKind.i64 key :: Value.int IntKind.i64 id :: Value.slice a l.length cap :: Value.agg #[Value.int IntKind.i64 ck, Value.int IntKind.i64 cz] :: Value.agg #[Value.int IntKind.i64 r, Value.int IntKind.i64 v, Value.int IntKind.i64 x, Value.int IntKind.i64 t] :: Value.int IntKind.i64 u :: undef :: undef :: undef :: Value.pointer (some { block := w.heap.size, off := 0 }) :: Value.pointer (some { block := w.heap.size + 1, off := 0 }) :: undef :: Value.bool false :: Value.bool true :: Value.pointer (some { block := u20.heap.size, off := 0 }) :: Value.bool true :: Value.pointer (some { block := u21.heap.size, off := 0 }) :: Value.int IntKind.i64 0 :: Value.slice aA n1 kA :: Value.slice (some { block := cb, off := co }) (n1 + 1) kB :: undef :: undef :: undef :: Value.bool true :: Value.slice a l.length cap :: Value.int IntKind.i64 (l.length : Int) :: Value.bool false :: undef :: Value.tuple #[Value.agg #[Value.int IntKind.i64 id, Value.slice sa l.length sc, Value.int IntKind.i64 T], Value.bool true] :: Value.int IntKind.i64 key :: Value.int IntKind.i64 id :: Value.slice a l.length cap :: Value.tuple #[Value.agg #[Value.int IntKind.i64 id, Value.slice sa l.length sc, Value.int IntKind.i64 T], Value.bool true] :: Value.agg #[Value.int IntKind.i64 id, Value.slice sa l.length sc, Value.int IntKind.i64 T] :: Value.bool true :: Value.bool true :: Value.bool false :: undef :: Value.tuple #[Value.agg #[Value.int IntKind.i64 id, Value.slice sb (l.length + 1) sd, Value.int IntKind.i64 T2], Value.int IntKind.i64 0] :: Value.agg #[Value.int IntKind.i64 id, Value.slice sa l.length sc, Value.int IntKind.i64 T] :: Value.agg #[Value.int IntKind.i64 ck, Value.int IntKind.i64 cz] :: Value.tuple #[Value.agg #[Value.int IntKind.i64 id, Value.slice sb (l.length + 1) sd, Value.int IntKind.i64 T2], Value.int IntKind.i64 0] :: Value.agg #[Value.int IntKind.i64 id, Value.slice sb (l.length + 1) sd, Value.int IntKind.i64 T2] :: Value.int IntKind.i64 0 :: Value.int IntKind.i64 0 :: Value.bool false :: undef :: undef :: undef :: undef :: undef :: undef :: undef :: undef :: undef :: undef :: undef :: undef :: undef :: undef :: Value.int IntKind.i64 key :: Value.agg #[Value.int IntKind.i64 id, Value.slice sa l.length sc, Value.int IntKind.i64 T] :: Value.slice aA n1 kA :: Value.int IntKind.i64 key :: Value.agg #[Value.int IntKind.i64 id, Value.slice sb (l.length + 1) sd, Value.int IntKind.i64 T2] :: Value.slice (some { block := cb, off := co }) (n1 + 1) kB :: vs 0 :: vs 1 :: vs 2 :: vs 3 :: vs 4 :: vs 5 :: vs 6 :: vs 7 :: vs 8 :: vs 9 :: vs 10 :: vs 11 :: vs 12 :: vs 13 :: vs 14 :: vs 15 :: vs 16 :: vs 17 :: vs 18 :: vs 19 :: vs 20 :: vs 21 :: vs 22 :: vs 23 :: vs 24 :: vs 25 :: vs 26 :: vs 27 :: vs 28 :: vs 29 :: vs 30 :: vs 31 :: vs 32 :: vs 33 :: vs 34 :: vs 35 :: vs 36 :: undef :: undef :: undef :: undef :: undef :: undef :: undef :: undef :: undef :: undef :: undef :: undef :: undef :: undef :: undef :: undef :: undef :: undef :: undef :: undef :: undef :: undef :: undef :: undef :: undef :: undef :: undef :: undef :: undef :: undef :: undef :: undef :: undef :: undef :: undef :: undef :: undef :: []), defers := [] } := ⟨_, rfl⟩
  have HLIT := Lib.hid hlit
  clear hlit
  obtain ⟨val, hval⟩ : ∃ val : List Value, val = [.int .i64 key, .agg #[.int .i64 id, .slice sa l.length sc, .int .i64 T], .bool true, .bool false, .bool false, .int .i64 key, .agg #[.int .i64 id, .slice sb (l.length + 1) sd, .int .i64 T2], .bool true, .bool false, .bool false, .bool false, .slice (some ⟨cb, co, none⟩) (n1 + 1) kB, .int .i64 ((n1 : Int) + 1), .slice aA n1 kA, .int .i64 (n1 : Int), .int .i64 ((n1 : Int) + 1), .bool false, .bool false, .bool false, .slice (some ⟨cb, co, none⟩) (n1 + 1) kB, .slice aA n1 kA, .int .i64 (n1 : Int), .slice (some ⟨cb, co, none⟩) n1 kB, .slice aA n1 kA, .bool true, .bool false, .bool false, .bool false, .slice (some ⟨cb, co, none⟩) (n1 + 1) kB, .slice aA n1 kA, .int .i64 (n1 : Int), .pointer (some ⟨cb, co + n1, none⟩), .int .i64 T2, .pointer (some ⟨u21.heap.size, 2, none⟩), .int .i64 T2, .bool false, .bool false] := ⟨_, rfl⟩
  have E0 := Lib.hid (show val.getD 0 undef = .int .i64 key by rw [hval]; rfl)
  have E1 := Lib.hid (show val.getD 1 undef = .agg #[.int .i64 id, .slice sa l.length sc, .int .i64 T] by rw [hval]; rfl)
  have E2 := Lib.hid (show val.getD 2 undef = .bool true by rw [hval]; rfl)
  have E3 := Lib.hid (show val.getD 3 undef = .bool false by rw [hval]; rfl)
  have E4 := Lib.hid (show val.getD 4 undef = .bool false by rw [hval]; rfl)
  have E5 := Lib.hid (show val.getD 5 undef = .int .i64 key by rw [hval]; rfl)
  have E6 := Lib.hid (show val.getD 6 undef = .agg #[.int .i64 id, .slice sb (l.length + 1) sd, .int .i64 T2] by rw [hval]; rfl)
  have E7 := Lib.hid (show val.getD 7 undef = .bool true by rw [hval]; rfl)
  have E8 := Lib.hid (show val.getD 8 undef = .bool false by rw [hval]; rfl)
  have E9 := Lib.hid (show val.getD 9 undef = .bool false by rw [hval]; rfl)
  have E10 := Lib.hid (show val.getD 10 undef = .bool false by rw [hval]; rfl)
  have E11 := Lib.hid (show val.getD 11 undef = .slice (some ⟨cb, co, none⟩) (n1 + 1) kB by rw [hval]; rfl)
  have E12 := Lib.hid (show val.getD 12 undef = .int .i64 ((n1 : Int) + 1) by rw [hval]; rfl)
  have E13 := Lib.hid (show val.getD 13 undef = .slice aA n1 kA by rw [hval]; rfl)
  have E14 := Lib.hid (show val.getD 14 undef = .int .i64 (n1 : Int) by rw [hval]; rfl)
  have E15 := Lib.hid (show val.getD 15 undef = .int .i64 ((n1 : Int) + 1) by rw [hval]; rfl)
  have E16 := Lib.hid (show val.getD 16 undef = .bool false by rw [hval]; rfl)
  have E17 := Lib.hid (show val.getD 17 undef = .bool false by rw [hval]; rfl)
  have E18 := Lib.hid (show val.getD 18 undef = .bool false by rw [hval]; rfl)
  have E19 := Lib.hid (show val.getD 19 undef = .slice (some ⟨cb, co, none⟩) (n1 + 1) kB by rw [hval]; rfl)
  have E20 := Lib.hid (show val.getD 20 undef = .slice aA n1 kA by rw [hval]; rfl)
  have E21 := Lib.hid (show val.getD 21 undef = .int .i64 (n1 : Int) by rw [hval]; rfl)
  have E22 := Lib.hid (show val.getD 22 undef = .slice (some ⟨cb, co, none⟩) n1 kB by rw [hval]; rfl)
  have E23 := Lib.hid (show val.getD 23 undef = .slice aA n1 kA by rw [hval]; rfl)
  have E24 := Lib.hid (show val.getD 24 undef = .bool true by rw [hval]; rfl)
  have E25 := Lib.hid (show val.getD 25 undef = .bool false by rw [hval]; rfl)
  have E26 := Lib.hid (show val.getD 26 undef = .bool false by rw [hval]; rfl)
  have E27 := Lib.hid (show val.getD 27 undef = .bool false by rw [hval]; rfl)
  have E28 := Lib.hid (show val.getD 28 undef = .slice (some ⟨cb, co, none⟩) (n1 + 1) kB by rw [hval]; rfl)
  have E29 := Lib.hid (show val.getD 29 undef = .slice aA n1 kA by rw [hval]; rfl)
  have E30 := Lib.hid (show val.getD 30 undef = .int .i64 (n1 : Int) by rw [hval]; rfl)
  have E31 := Lib.hid (show val.getD 31 undef = .pointer (some ⟨cb, co + n1, none⟩) by rw [hval]; rfl)
  have E32 := Lib.hid (show val.getD 32 undef = .int .i64 T2 by rw [hval]; rfl)
  have E33 := Lib.hid (show val.getD 33 undef = .pointer (some ⟨u21.heap.size, 2, none⟩) by rw [hval]; rfl)
  have E34 := Lib.hid (show val.getD 34 undef = .int .i64 T2 by rw [hval]; rfl)
  have E35 := Lib.hid (show val.getD 35 undef = .bool false by rw [hval]; rfl)
  have E36 := Lib.hid (show val.getD 36 undef = .bool false by rw [hval]; rfl)
  clear hval
  obtain ⟨G, hG0⟩ : ∃ G : Nat → Value → World → Prop, G = (fun i v w => (v = val.getD i undef)) := ⟨_, rfl⟩
  have HG := Lib.hid hG0
  clear hG0
  refine region_inv (RS lit u23 G) (by kernel_rfl) (by decide +kernel) ?_ ?_ ?_
  · exact ⟨fun i => ([undef, undef, undef, undef, undef, undef, undef, undef, undef, undef, undef, undef, undef, undef, undef, undef, undef, undef, undef, undef, undef, undef, undef, undef, undef, undef, undef, undef, undef, undef, undef, undef, undef, undef, undef, undef, undef] : List Value).getD i undef, (by rw [HLIT.out]; rfl), below_drew _ _, fun i h => by cases h⟩
  · refine ⟨?_, ?_, ?_, ?_, ?_, ?_, ?_, ?_, ?_, ?_, ?_, ?_, ?_, ?_, ?_, ?_, ?_, ?_, ?_, ?_, ?_, ?_, ?_, ?_, ?_, ?_, ?_, ?_, ?_, ?_, ?_, ?_, ?_, ?_, ?_, ?_, ?_, trivial⟩
    · intro bf ac wv hfb haf hJ K' hK
      obtain ⟨vs, rfl, hM, j4⟩ := hJ
      replace hK := Lib.hid hK
      replace hM := Lib.hid hM
      rw [HG.out] at j4
      replace j4 := Lib.hid j4
      clear haf hfb
      rw [HLIT.out]
      go_simp
      exact hK.out _ _ (RS.next (wv := wv) (vs := vs) 0 (x := .int .i64 key) (by rw [HLIT.out]; rfl) (by rw [HG.out]; exact j4.out) hM.out (by rw [HG.out]; exact fun _ _ h => h) (by rw [HG.out]; exact E0.out.symm))
    · intro bf ac wv hfb haf hJ K' hK
      obtain ⟨vs, rfl, hM, j4⟩ := hJ
      replace hK := Lib.hid hK
      replace hM := Lib.hid hM
      rw [HG.out] at j4
      replace j4 := Lib.hid j4
      clear haf hfb
      have K1 := KC_32.out.step hM.out
      have x0 := K1.c 0 rfl
      have x1 := K1.c 1 rfl
      have x2 := K1.c 2 rfl
      have xz := K1.2.2
      clear K1
      rw [HLIT.out]
      go_simp
      exact hK.out _ _ (RS.next (wv := wv) (vs := vs) 1 (x := .agg #[.int .i64 id, .slice sa l.length sc, .int .i64 T]) (by rw [HLIT.out]; rfl) (by rw [HG.out]; exact j4.out) hM.out (by rw [HG.out]; exact fun _ _ h => h) (by rw [HG.out]; exact E1.out.symm))
    · intro bf ac wv hfb haf hJ K' hK
      obtain ⟨vs, rfl, hM, j4⟩ := hJ
      replace hK := Lib.hid hK
      replace hM := Lib.hid hM
      rw [HG.out] at j4
      simp [Region.binds] at haf
      have e0 := ((j4 0 (by simp [haf]))).trans E0.out
      have e1 := ((j4 1 (by simp [haf]))).trans E1.out
      replace j4 := Lib.hid j4
      clear haf hfb
      rw [HLIT.out]
      go_simp
      go_at_call 15
      refine (genuine_any key id T _ (l) _ (HS.out.step hM.out)).mono ?_
      rintro e w4 ⟨rfl, b4⟩
      rw [HG1.out.2.2]
      exact hK.out _ _ (RS.next (wv := wv) (vs := vs) 2 (x := .bool true) (by rw [HLIT.out]; simp only [upv, e0, e1, Nat.reduceBEq, cond_true, cond_false]) (by rw [HG.out]; exact j4.out) (keep2 b4 hM.out) (by rw [HG.out]; exact fun _ _ h => h) (by rw [HG.out]; exact E2.out.symm))
    · intro bf ac wv hfb haf hJ K' hK
      obtain ⟨vs, rfl, hM, j4⟩ := hJ
      replace hK := Lib.hid hK
      replace hM := Lib.hid hM
      rw [HG.out] at j4
      simp [Region.binds] at haf
      have e2 := ((j4 2 (by simp [haf]))).trans E2.out
      replace j4 := Lib.hid j4
      clear haf hfb
      rw [HLIT.out]
      go_simp
      exact hK.out _ _ (RS.next (wv := wv) (vs := vs) 3 (x := .bool false) (by rw [HLIT.out]; simp only [upv, e2, Nat.reduceBEq, cond_true, cond_false]) (by rw [HG.out]; exact j4.out) hM.out (by rw [HG.out]; exact fun _ _ h => h) (by rw [HG.out]; exact E3.out.symm))
    · intro bf ac wv hfb haf hJ K' hK
      obtain ⟨vs, rfl, hM, j4⟩ := hJ
      replace hK := Lib.hid hK
      replace hM := Lib.hid hM
      rw [HG.out] at j4
      simp [Region.binds] at haf
      have e3 := ((j4 3 (by simp [haf]))).trans E3.out
      replace j4 := Lib.hid j4
      clear haf hfb
      rw [HLIT.out]
      go_simp
      exact hK.out _ _ (RS.next (wv := wv) (vs := vs) 4 (x := .bool false) (by rw [HLIT.out]; simp only [upv, e3, Nat.reduceBEq, cond_true, cond_false]) (by rw [HG.out]; exact j4.out) hM.out (by rw [HG.out]; exact fun _ _ h => h) (by rw [HG.out]; exact E4.out.symm))
    · intro bf ac wv hfb haf hJ K' hK
      obtain ⟨vs, rfl, hM, j4⟩ := hJ
      replace hK := Lib.hid hK
      replace hM := Lib.hid hM
      rw [HG.out] at j4
      simp [Region.binds] at haf
      have e4 := ((j4 4 (by simp [haf]))).trans E4.out
      replace j4 := Lib.hid j4
      clear haf hfb
      rw [HLIT.out]
      go_simp
      exact hK.out _ _ (RS.next (wv := wv) (vs := vs) 5 (x := .int .i64 key) (by rw [HLIT.out]; simp only [upv, e4, Nat.reduceBEq, cond_true, cond_false]) (by rw [HG.out]; exact j4.out) hM.out (by rw [HG.out]; exact fun _ _ h => h) (by rw [HG.out]; exact E5.out.symm))
    · intro bf ac wv hfb haf hJ K' hK
      obtain ⟨vs, rfl, hM, j4⟩ := hJ
      replace hK := Lib.hid hK
      replace hM := Lib.hid hM
      rw [HG.out] at j4
      simp [Region.binds] at haf
      have e4 := ((j4 4 (by simp [haf]))).trans E4.out
      replace j4 := Lib.hid j4
      clear haf hfb
      have K1 := KD_33.out.step hM.out
      have x0 := K1.c 0 rfl
      have x1 := K1.c 1 rfl
      have x2 := K1.c 2 rfl
      have xz := K1.2.2
      clear K1
      rw [HLIT.out]
      go_simp
      exact hK.out _ _ (RS.next (wv := wv) (vs := vs) 6 (x := .agg #[.int .i64 id, .slice sb (l.length + 1) sd, .int .i64 T2]) (by rw [HLIT.out]; simp only [upv, e4, Nat.reduceBEq, cond_true, cond_false]) (by rw [HG.out]; exact j4.out) hM.out (by rw [HG.out]; exact fun _ _ h => h) (by rw [HG.out]; exact E6.out.symm))
    · intro bf ac wv hfb haf hJ K' hK
      obtain ⟨vs, rfl, hM, j4⟩ := hJ
      replace hK := Lib.hid hK
      replace hM := Lib.hid hM
      rw [HG.out] at j4
      simp [Region.binds] at haf
      have e4 := ((j4 4 (by simp [haf]))).trans E4.out
      have e5 := ((j4 5 (by simp [haf]))).trans E5.out
      have e6 := ((j4 6 (by simp [haf]))).trans E6.out
      replace j4 := Lib.hid j4
      clear haf hfb
      rw [HLIT.out]
      go_simp
      go_at_call 15
      refine (genuine_any key id T2 _ (l ++ [⟨ck, cz⟩]) _ (HS2.out.step hM.out)).mono ?_
      rintro e w4 ⟨rfl, b4⟩
      rw [HG2.out.2.1]
      exact hK.out _ _ (RS.next (wv := wv) (vs := vs) 7 (x := .bool true) (by rw [HLIT.out]; simp only [upv, e4, e5, e6, Nat.reduceBEq, cond_true, cond_false]) (by rw [HG.out]; exact j4.out) (keep2 b4 hM.out) (by rw [HG.out]; exact fun _ _ h => h) (by rw [HG.out]; exact E7.out.symm))
    · intro bf ac wv hfb haf hJ K' hK
      obtain ⟨vs, rfl, hM, j4⟩ := hJ
      replace hK := Lib.hid hK
      replace hM := Lib.hid hM
      rw [HG.out] at j4
      simp [Region.binds] at haf
      have e4 := ((j4 4 (by simp [haf]))).trans E4.out
      have e7 := ((j4 7 (by simp [haf]))).trans E7.out
      replace j4 := Lib.hid j4
      clear haf hfb
      rw [HLIT.out]
      go_simp
      exact hK.out _ _ (RS.next (wv := wv) (vs := vs) 8 (x := .bool false) (by rw [HLIT.out]; simp only [upv, e4, e7, Nat.reduceBEq, cond_true, cond_false]) (by rw [HG.out]; exact j4.out) hM.out (by rw [HG.out]; exact fun _ _ h => h) (by rw [HG.out]; exact E8.out.symm))
    · intro bf ac wv hfb haf hJ K' hK
      obtain ⟨vs, rfl, hM, j4⟩ := hJ
      replace hK := Lib.hid hK
      replace hM := Lib.hid hM
      rw [HG.out] at j4
      simp [Region.binds] at haf
      have e4 := ((j4 4 (by simp [haf]))).trans E4.out
      have e8 := ((j4 8 (by simp [haf]))).trans E8.out
      replace j4 := Lib.hid j4
      clear haf hfb
      rw [HLIT.out]
      go_simp
      exact hK.out _ _ (RS.next (wv := wv) (vs := vs) 9 (x := .bool false) (by rw [HLIT.out]; simp only [upv, e4, e8, Nat.reduceBEq, cond_true, cond_false]) (by rw [HG.out]; exact j4.out) hM.out (by rw [HG.out]; exact fun _ _ h => h) (by rw [HG.out]; exact E9.out.symm))
    · intro bf ac wv hfb haf hJ K' hK
      obtain ⟨vs, rfl, hM, j4⟩ := hJ
      replace hK := Lib.hid hK
      replace hM := Lib.hid hM
      rw [HG.out] at j4
      simp [Region.binds] at haf
      have e9 := ((j4 9 (by simp [haf]))).trans E9.out
      replace j4 := Lib.hid j4
      clear haf hfb
      rw [HLIT.out]
      go_simp
      exact hK.out _ _ (RS.next (wv := wv) (vs := vs) 10 (x := .bool false) (by rw [HLIT.out]; simp only [upv, e9, Nat.reduceBEq, cond_true, cond_false]) (by rw [HG.out]; exact j4.out) hM.out (by rw [HG.out]; exact fun _ _ h => h) (by rw [HG.out]; exact E10.out.symm))
    · intro bf ac wv hfb haf hJ K' hK
      obtain ⟨vs, rfl, hM, j4⟩ := hJ
      replace hK := Lib.hid hK
      replace hM := Lib.hid hM
      rw [HG.out] at j4
      simp [Region.binds] at haf
      have e10 := ((j4 10 (by simp [haf]))).trans E10.out
      replace j4 := Lib.hid j4
      clear haf hfb
      rw [HLIT.out]
      go_simp
      exact hK.out _ _ (RS.next (wv := wv) (vs := vs) 11 (x := .slice (some ⟨cb, co, none⟩) (n1 + 1) kB) (by rw [HLIT.out]; simp only [upv, e10, Nat.reduceBEq, cond_true, cond_false]) (by rw [HG.out]; exact j4.out) hM.out (by rw [HG.out]; exact fun _ _ h => h) (by rw [HG.out]; exact E11.out.symm))
    · intro bf ac wv hfb haf hJ K' hK
      obtain ⟨vs, rfl, hM, j4⟩ := hJ
      replace hK := Lib.hid hK
      replace hM := Lib.hid hM
      rw [HG.out] at j4
      simp [Region.binds] at haf
      have e10 := ((j4 10 (by simp [haf]))).trans E10.out
      have e11 := ((j4 11 (by simp [haf]))).trans E11.out
      replace j4 := Lib.hid j4
      clear haf hfb
      rw [HLIT.out]
      go_simp
      exact hK.out _ _ (RS.next (wv := wv) (vs := vs) 12 (x := .int .i64 ((n1 : Int) + 1)) (by rw [HLIT.out]; simp only [upv, e10, e11, Nat.reduceBEq, cond_true, cond_false]) (by rw [HG.out]; exact j4.out) hM.out (by rw [HG.out]; exact fun _ _ h => h) (by rw [HG.out]; exact E12.out.symm))
    · intro bf ac wv hfb haf hJ K' hK
      obtain ⟨vs, rfl, hM, j4⟩ := hJ
      replace hK := Lib.hid hK
      replace hM := Lib.hid hM
      rw [HG.out] at j4
      simp [Region.binds] at haf
      have e10 := ((j4 10 (by simp [haf]))).trans E10.out
      replace j4 := Lib.hid j4
      clear haf hfb
      rw [HLIT.out]
      go_simp
      exact hK.out _ _ (RS.next (wv := wv) (vs := vs) 13 (x := .slice aA n1 kA) (by rw [HLIT.out]; simp only [upv, e10, Nat.reduceBEq, cond_true, cond_false]) (by rw [HG.out]; exact j4.out) hM.out (by rw [HG.out]; exact fun _ _ h => h) (by rw [HG.out]; exact E13.out.symm))
    · intro bf ac wv hfb haf hJ K' hK
      obtain ⟨vs, rfl, hM, j4⟩ := hJ
      replace hK := Lib.hid hK
      replace hM := Lib.hid hM
      rw [HG.out] at j4
      simp [Region.binds] at haf
      have e10 := ((j4 10 (by simp [haf]))).trans E10.out
      have e13 := ((j4 13 (by simp [haf]))).trans E13.out
      replace j4 := Lib.hid j4
      clear haf hfb
      rw [HLIT.out]
      go_simp
      exact hK.out _ _ (RS.next (wv := wv) (vs := vs) 14 (x := .int .i64 (n1 : Int)) (by rw [HLIT.out]; simp only [upv, e10, e13, Nat.reduceBEq, cond_true, cond_false]) (by rw [HG.out]; exact j4.out) hM.out (by rw [HG.out]; exact fun _ _ h => h) (by rw [HG.out]; exact E14.out.symm))
    · intro bf ac wv hfb haf hJ K' hK
      obtain ⟨vs, rfl, hM, j4⟩ := hJ
      replace hK := Lib.hid hK
      replace hM := Lib.hid hM
      rw [HG.out] at j4
      simp [Region.binds] at haf
      have e10 := ((j4 10 (by simp [haf]))).trans E10.out
      have e14 := ((j4 14 (by simp [haf]))).trans E14.out
      replace j4 := Lib.hid j4
      clear haf hfb
      have hb13 : (n1 : Int) ≤ 13 := by omega
      have hb0 : (0 : Int) ≤ (n1 : Int) := by omega
      have hwr : IntKind.i64.wrap ((n1 : Int) + 1) = (n1 : Int) + 1 := IntWalk.i64_in _ (by omega)
      rw [HLIT.out]
      go_simp
      exact hK.out _ _ (RS.next (wv := wv) (vs := vs) 15 (x := .int .i64 ((n1 : Int) + 1)) (by rw [HLIT.out]; simp only [upv, e10, e14, hwr, Nat.reduceBEq, cond_true, cond_false]) (by rw [HG.out]; exact j4.out) hM.out (by rw [HG.out]; exact fun _ _ h => h) (by rw [HG.out]; exact E15.out.symm))
    · intro bf ac wv hfb haf hJ K' hK
      obtain ⟨vs, rfl, hM, j4⟩ := hJ
      replace hK := Lib.hid hK
      replace hM := Lib.hid hM
      rw [HG.out] at j4
      simp [Region.binds] at haf
      have e10 := ((j4 10 (by simp [haf]))).trans E10.out
      have e12 := ((j4 12 (by simp [haf]))).trans E12.out
      have e15 := ((j4 15 (by simp [haf]))).trans E15.out
      replace j4 := Lib.hid j4
      clear haf hfb
      rw [HLIT.out]
      go_simp
      exact hK.out _ _ (RS.next (wv := wv) (vs := vs) 16 (x := .bool false) (by rw [HLIT.out]; simp only [upv, e10, e12, e15, Nat.reduceBEq, cond_true, cond_false]) (by rw [HG.out]; exact j4.out) hM.out (by rw [HG.out]; exact fun _ _ h => h) (by rw [HG.out]; exact E16.out.symm))
    · intro bf ac wv hfb haf hJ K' hK
      obtain ⟨vs, rfl, hM, j4⟩ := hJ
      replace hK := Lib.hid hK
      replace hM := Lib.hid hM
      rw [HG.out] at j4
      simp [Region.binds] at haf
      have e10 := ((j4 10 (by simp [haf]))).trans E10.out
      have e16 := ((j4 16 (by simp [haf]))).trans E16.out
      replace j4 := Lib.hid j4
      clear haf hfb
      rw [HLIT.out]
      go_simp
      exact hK.out _ _ (RS.next (wv := wv) (vs := vs) 17 (x := .bool false) (by rw [HLIT.out]; simp only [upv, e10, e16, Nat.reduceBEq, cond_true, cond_false]) (by rw [HG.out]; exact j4.out) hM.out (by rw [HG.out]; exact fun _ _ h => h) (by rw [HG.out]; exact E17.out.symm))
    · intro bf ac wv hfb haf hJ K' hK
      obtain ⟨vs, rfl, hM, j4⟩ := hJ
      replace hK := Lib.hid hK
      replace hM := Lib.hid hM
      rw [HG.out] at j4
      simp [Region.binds] at haf
      have e17 := ((j4 17 (by simp [haf]))).trans E17.out
      replace j4 := Lib.hid j4
      clear haf hfb
      rw [HLIT.out]
      go_simp
      exact hK.out _ _ (RS.next (wv := wv) (vs := vs) 18 (x := .bool false) (by rw [HLIT.out]; simp only [upv, e17, Nat.reduceBEq, cond_true, cond_false]) (by rw [HG.out]; exact j4.out) hM.out (by rw [HG.out]; exact fun _ _ h => h) (by rw [HG.out]; exact E18.out.symm))
    · intro bf ac wv hfb haf hJ K' hK
      obtain ⟨vs, rfl, hM, j4⟩ := hJ
      replace hK := Lib.hid hK
      replace hM := Lib.hid hM
      rw [HG.out] at j4
      simp [Region.binds] at haf
      have e18 := ((j4 18 (by simp [haf]))).trans E18.out
      replace j4 := Lib.hid j4
      clear haf hfb
      rw [HLIT.out]
      go_simp
      exact hK.out _ _ (RS.next (wv := wv) (vs := vs) 19 (x := .slice (some ⟨cb, co, none⟩) (n1 + 1) kB) (by rw [HLIT.out]; simp only [upv, e18, Nat.reduceBEq, cond_true, cond_false]) (by rw [HG.out]; exact j4.out) hM.out (by rw [HG.out]; exact fun _ _ h => h) (by rw [HG.out]; exact E19.out.symm))
    · intro bf ac wv hfb haf hJ K' hK
      obtain ⟨vs, rfl, hM, j4⟩ := hJ
      replace hK := Lib.hid hK
      replace hM := Lib.hid hM
      rw [HG.out] at j4
      simp [Region.binds] at haf
      have e18 := ((j4 18 (by simp [haf]))).trans E18.out
      replace j4 := Lib.hid j4
      clear haf hfb
      rw [HLIT.out]
      go_simp
      exact hK.out _ _ (RS.next (wv := wv) (vs := vs) 20 (x := .slice aA n1 kA) (by rw [HLIT.out]; simp only [upv, e18, Nat.reduceBEq, cond_true, cond_false]) (by rw [HG.out]; exact j4.out) hM.out (by rw [HG.out]; exact fun _ _ h => h) (by rw [HG.out]; exact E20.out.symm))
    · intro bf ac wv hfb haf hJ K' hK
      obtain ⟨vs, rfl, hM, j4⟩ := hJ
      replace hK := Lib.hid hK
      replace hM := Lib.hid hM
      rw [HG.out] at j4
      simp [Region.binds] at haf
      have e18 := ((j4 18 (by simp [haf]))).trans E18.out
      have e20 := ((j4 20 (by simp [haf]))).trans E20.out
      replace j4 := Lib.hid j4
      clear haf hfb
      rw [HLIT.out]
      go_simp
      exact hK.out _ _ (RS.next (wv := wv) (vs := vs) 21 (x := .int .i64 (n1 : Int)) (by rw [HLIT.out]; simp only [upv, e18, e20, Nat.reduceBEq, cond_true, cond_false]) (by rw [HG.out]; exact j4.out) hM.out (by rw [HG.out]; exact fun _ _ h => h) (by rw [HG.out]; exact E21.out.symm))
    · intro bf ac wv hfb haf hJ K' hK
      obtain ⟨vs, rfl, hM, j4⟩ := hJ
      replace hK := Lib.hid hK
      replace hM := Lib.hid hM
      rw [HG.out] at j4
      simp [Region.binds] at haf
      have e18 := ((j4 18 (by simp [haf]))).trans E18.out
      have e19 := ((j4 19 (by simp [haf]))).trans E19.out
      have e21 := ((j4 21 (by simp [haf]))).trans E21.out
      replace j4 := Lib.hid j4
      clear haf hfb
      have hx2 : (n1 : Int) ≤ (kB : Int) := by omega
      have hx3 : (0 : Int) ≤ (n1 : Int) := by omega
      rw [HLIT.out]
      go_simp
      exact hK.out _ _ (RS.next (wv := wv) (vs := vs) 22 (x := .slice (some ⟨cb, co, none⟩) n1 kB) (by rw [HLIT.out]; simp only [upv, e18, e19, e21, Nat.reduceBEq, cond_true, cond_false]) (by rw [HG.out]; exact j4.out) hM.out (by rw [HG.out]; exact fun _ _ h => h) (by rw [HG.out]; exact E22.out.symm))
    · intro bf ac wv hfb haf hJ K' hK
      obtain ⟨vs, rfl, hM, j4⟩ := hJ
      replace hK := Lib.hid hK
      replace hM := Lib.hid hM
      rw [HG.out] at j4
      simp [Region.binds] at haf
      have e18 := ((j4 18 (by simp [haf]))).trans E18.out
      replace j4 := Lib.hid j4
      clear haf hfb
      rw [HLIT.out]
      go_simp
      exact hK.out _ _ (RS.next (wv := wv) (vs := vs) 23 (x := .slice aA n1 kA) (by rw [HLIT.out]; simp only [upv, e18, Nat.reduceBEq, cond_true, cond_false]) (by rw [HG.out]; exact j4.out) hM.out (by rw [HG.out]; exact fun _ _ h => h) (by rw [HG.out]; exact E23.out.symm))
    · intro bf ac wv hfb haf hJ K' hK
      obtain ⟨vs, rfl, hM, j4⟩ := hJ
      replace hK := Lib.hid hK
      replace hM := Lib.hid hM
      rw [HG.out] at j4
      simp [Region.binds] at haf
      have e18 := ((j4 18 (by simp [haf]))).trans E18.out
      have e22 := ((j4 22 (by simp [haf]))).trans E22.out
      have e23 := ((j4 23 (by simp [haf]))).trans E23.out
      replace j4 := Lib.hid j4
      clear haf hfb
      rw [HLIT.out]
      go_simp
      go_at_call 17
      refine (ints_any _ _ B1 B1 _ (HI3.out.step hM.out) (HI1.out.step hM.out)).mono ?_
      rintro e w4 ⟨rfl, n9, rfl⟩
      rw [decide_eq_true (rfl : B1 = B1)]
      have b4 : Below wv.heap.size wv (wv.drewN n9) := below_drewN' _ _ _
      exact hK.out _ _ (RS.next (wv := wv) (vs := vs) 24 (x := .bool true) (by rw [HLIT.out]; simp only [upv, e18, e22, e23, Nat.reduceBEq, cond_true, cond_false]) (by rw [HG.out]; exact j4.out) (keep2 b4 hM.out) (by rw [HG.out]; exact fun _ _ h => h) (by rw [HG.out]; exact E24.out.symm))
    · intro bf ac wv hfb haf hJ K' hK
      obtain ⟨vs, rfl, hM, j4⟩ := hJ
      replace hK := Lib.hid hK
      replace hM := Lib.hid hM
      rw [HG.out] at j4
      simp [Region.binds] at haf
      have e18 := ((j4 18 (by simp [haf]))).trans E18.out
      have e24 := ((j4 24 (by simp [haf]))).trans E24.out
      replace j4 := Lib.hid j4
      clear haf hfb
      rw [HLIT.out]
      go_simp
      exact hK.out _ _ (RS.next (wv := wv) (vs := vs) 25 (x := .bool false) (by rw [HLIT.out]; simp only [upv, e18, e24, Nat.reduceBEq, cond_true, cond_false]) (by rw [HG.out]; exact j4.out) hM.out (by rw [HG.out]; exact fun _ _ h => h) (by rw [HG.out]; exact E25.out.symm))
    · intro bf ac wv hfb haf hJ K' hK
      obtain ⟨vs, rfl, hM, j4⟩ := hJ
      replace hK := Lib.hid hK
      replace hM := Lib.hid hM
      rw [HG.out] at j4
      simp [Region.binds] at haf
      have e18 := ((j4 18 (by simp [haf]))).trans E18.out
      have e25 := ((j4 25 (by simp [haf]))).trans E25.out
      replace j4 := Lib.hid j4
      clear haf hfb
      rw [HLIT.out]
      go_simp
      exact hK.out _ _ (RS.next (wv := wv) (vs := vs) 26 (x := .bool false) (by rw [HLIT.out]; simp only [upv, e18, e25, Nat.reduceBEq, cond_true, cond_false]) (by rw [HG.out]; exact j4.out) hM.out (by rw [HG.out]; exact fun _ _ h => h) (by rw [HG.out]; exact E26.out.symm))
    · intro bf ac wv hfb haf hJ K' hK
      obtain ⟨vs, rfl, hM, j4⟩ := hJ
      replace hK := Lib.hid hK
      replace hM := Lib.hid hM
      rw [HG.out] at j4
      simp [Region.binds] at haf
      have e26 := ((j4 26 (by simp [haf]))).trans E26.out
      replace j4 := Lib.hid j4
      clear haf hfb
      rw [HLIT.out]
      go_simp
      exact hK.out _ _ (RS.next (wv := wv) (vs := vs) 27 (x := .bool false) (by rw [HLIT.out]; simp only [upv, e26, Nat.reduceBEq, cond_true, cond_false]) (by rw [HG.out]; exact j4.out) hM.out (by rw [HG.out]; exact fun _ _ h => h) (by rw [HG.out]; exact E27.out.symm))
    · intro bf ac wv hfb haf hJ K' hK
      obtain ⟨vs, rfl, hM, j4⟩ := hJ
      replace hK := Lib.hid hK
      replace hM := Lib.hid hM
      rw [HG.out] at j4
      simp [Region.binds] at haf
      have e27 := ((j4 27 (by simp [haf]))).trans E27.out
      replace j4 := Lib.hid j4
      clear haf hfb
      rw [HLIT.out]
      go_simp
      exact hK.out _ _ (RS.next (wv := wv) (vs := vs) 28 (x := .slice (some ⟨cb, co, none⟩) (n1 + 1) kB) (by rw [HLIT.out]; simp only [upv, e27, Nat.reduceBEq, cond_true, cond_false]) (by rw [HG.out]; exact j4.out) hM.out (by rw [HG.out]; exact fun _ _ h => h) (by rw [HG.out]; exact E28.out.symm))
    · intro bf ac wv hfb haf hJ K' hK
      obtain ⟨vs, rfl, hM, j4⟩ := hJ
      replace hK := Lib.hid hK
      replace hM := Lib.hid hM
      rw [HG.out] at j4
      simp [Region.binds] at haf
      have e27 := ((j4 27 (by simp [haf]))).trans E27.out
      replace j4 := Lib.hid j4
      clear haf hfb
      rw [HLIT.out]
      go_simp
      exact hK.out _ _ (RS.next (wv := wv) (vs := vs) 29 (x := .slice aA n1 kA) (by rw [HLIT.out]; simp only [upv, e27, Nat.reduceBEq, cond_true, cond_false]) (by rw [HG.out]; exact j4.out) hM.out (by rw [HG.out]; exact fun _ _ h => h) (by rw [HG.out]; exact E29.out.symm))
    · intro bf ac wv hfb haf hJ K' hK
      obtain ⟨vs, rfl, hM, j4⟩ := hJ
      replace hK := Lib.hid hK
      replace hM := Lib.hid hM
      rw [HG.out] at j4
      simp [Region.binds] at haf
      have e27 := ((j4 27 (by simp [haf]))).trans E27.out
      have e29 := ((j4 29 (by simp [haf]))).trans E29.out
      replace j4 := Lib.hid j4
      clear haf hfb
      rw [HLIT.out]
      go_simp
      exact hK.out _ _ (RS.next (wv := wv) (vs := vs) 30 (x := .int .i64 (n1 : Int)) (by rw [HLIT.out]; simp only [upv, e27, e29, Nat.reduceBEq, cond_true, cond_false]) (by rw [HG.out]; exact j4.out) hM.out (by rw [HG.out]; exact fun _ _ h => h) (by rw [HG.out]; exact E30.out.symm))
    · intro bf ac wv hfb haf hJ K' hK
      obtain ⟨vs, rfl, hM, j4⟩ := hJ
      replace hK := Lib.hid hK
      replace hM := Lib.hid hM
      rw [HG.out] at j4
      simp [Region.binds] at haf
      have e27 := ((j4 27 (by simp [haf]))).trans E27.out
      have e28 := ((j4 28 (by simp [haf]))).trans E28.out
      have e30 := ((j4 30 (by simp [haf]))).trans E30.out
      replace j4 := Lib.hid j4
      clear haf hfb
      have hx3 : (0 : Int) ≤ (n1 : Int) := by omega
      have hx4 : (n1 : Int) < (n1 : Int) + 1 := by omega
      rw [HLIT.out]
      go_simp
      exact hK.out _ _ (RS.next (wv := wv) (vs := vs) 31 (x := .pointer (some ⟨cb, co + n1, none⟩)) (by rw [HLIT.out]; simp only [upv, e27, e28, e30, Nat.reduceBEq, cond_true, cond_false]) (by rw [HG.out]; exact j4.out) hM.out (by rw [HG.out]; exact fun _ _ h => h) (by rw [HG.out]; exact E31.out.symm))
    · intro bf ac wv hfb haf hJ K' hK
      obtain ⟨vs, rfl, hM, j4⟩ := hJ
      replace hK := Lib.hid hK
      replace hM := Lib.hid hM
      rw [HG.out] at j4
      simp [Region.binds] at haf
      have e27 := ((j4 27 (by simp [haf]))).trans E27.out
      have e31 := ((j4 31 (by simp [haf]))).trans E31.out
      replace j4 := Lib.hid j4
      clear haf hfb
      have xg := keep1 hM.out HX.out
      have xgz := World.block_lt_of_cell? _ _ xg
      have xgz : cb < wv.heap.size := xgz
      rw [HLIT.out]
      go_simp
      exact hK.out _ _ (RS.next (wv := wv) (vs := vs) 32 (x := .int .i64 T2) (by rw [HLIT.out]; simp only [upv, e27, e31, Nat.reduceBEq, cond_true, cond_false]) (by rw [HG.out]; exact j4.out) hM.out (by rw [HG.out]; exact fun _ _ h => h) (by rw [HG.out]; exact E32.out.symm))
    · intro bf ac wv hfb haf hJ K' hK
      obtain ⟨vs, rfl, hM, j4⟩ := hJ
      replace hK := Lib.hid hK
      replace hM := Lib.hid hM
      rw [HG.out] at j4
      simp [Region.binds] at haf
      have e27 := ((j4 27 (by simp [haf]))).trans E27.out
      replace j4 := Lib.hid j4
      clear haf hfb
      rw [HLIT.out]
      go_simp
      exact hK.out _ _ (RS.next (wv := wv) (vs := vs) 33 (x := .pointer (some ⟨u21.heap.size, 2, none⟩)) (by rw [HLIT.out]; simp only [upv, e27, Nat.reduceBEq, cond_true, cond_false]) (by rw [HG.out]; exact j4.out) hM.out (by rw [HG.out]; exact fun _ _ h => h) (by rw [HG.out]; exact E33.out.symm))
    · intro bf ac wv hfb haf hJ K' hK
      obtain ⟨vs, rfl, hM, j4⟩ := hJ
      replace hK := Lib.hid hK
      replace hM := Lib.hid hM
      rw [HG.out] at j4
      simp [Region.binds] at haf
      have e27 := ((j4 27 (by simp [haf]))).trans E27.out
      have e33 := ((j4 33 (by simp [haf]))).trans E33.out
      replace j4 := Lib.hid j4
      clear haf hfb
      have K1 := KD_33.out.step hM.out
      have x2 := K1.c 2 rfl
      have xz := K1.2.2
      clear K1
      rw [HLIT.out]
      go_simp
      exact hK.out _ _ (RS.next (wv := wv) (vs := vs) 34 (x := .int .i64 T2) (by rw [HLIT.out]; simp only [upv, e27, e33, Nat.reduceBEq, cond_true, cond_false]) (by rw [HG.out]; exact j4.out) hM.out (by rw [HG.out]; exact fun _ _ h => h) (by rw [HG.out]; exact E34.out.symm))
    · intro bf ac wv hfb haf hJ K' hK
      obtain ⟨vs, rfl, hM, j4⟩ := hJ
      replace hK := Lib.hid hK
      replace hM := Lib.hid hM
      rw [HG.out] at j4
      simp [Region.binds] at haf
      have e27 := ((j4 27 (by simp [haf]))).trans E27.out
      have e32 := ((j4 32 (by simp [haf]))).trans E32.out
      have e34 := ((j4 34 (by simp [haf]))).trans E34.out
      replace j4 := Lib.hid j4
      clear haf hfb
      rw [HLIT.out]
      go_simp
      exact hK.out _ _ (RS.next (wv := wv) (vs := vs) 35 (x := .bool false) (by rw [HLIT.out]; simp only [upv, e27, e32, e34, Nat.reduceBEq, cond_true, cond_false]) (by rw [HG.out]; exact j4.out) hM.out (by rw [HG.out]; exact fun _ _ h => h) (by rw [HG.out]; exact E35.out.symm))
    · intro bf ac wv hfb haf hJ K' hK
      obtain ⟨vs, rfl, hM, j4⟩ := hJ
      replace hK := Lib.hid hK
      replace hM := Lib.hid hM
      rw [HG.out] at j4
      simp [Region.binds] at haf
      have e27 := ((j4 27 (by simp [haf]))).trans E27.out
      have e35 := ((j4 35 (by simp [haf]))).trans E35.out
      replace j4 := Lib.hid j4
      clear haf hfb
      rw [HLIT.out]
      go_simp
      exact hK.out _ _ (RS.next (wv := wv) (vs := vs) 36 (x := .bool false) (by rw [HLIT.out]; simp only [upv, e27, e35, Nat.reduceBEq, cond_true, cond_false]) (by rw [HG.out]; exact j4.out) hM.out (by rw [HG.out]; exact fun _ _ h => h) (by rw [HG.out]; exact E36.out.symm))
  · intro bf ac wv hall hJ
    obtain ⟨vs, rfl, hM, j4⟩ := hJ
    rw [HG.out] at j4
    have e36 := ((j4 36 (hall 36 (by decide)))).trans E36.out
    replace hM := Lib.hid hM
    clear hall j4
    rw [HLIT.out]
    dsimp only
    rw [e36]
    clear e36
    have LV := Lib.hid (KV_30.out.step hM.out)
    have LK := Lib.hid (KK_31.out.step hM.out)
    have LC := Lib.hid (KC_32.out.step hM.out)
    have LD := Lib.hid (KD_33.out.step hM.out)
    replace HS := Lib.hid (HS.out.step hM.out)
    replace HS2 := Lib.hid (HS2.out.step hM.out)
    have HBX := Lib.hid (keep2 hM.out HB34.out)
    clear hM HI1 HI3 HX HB34 KV_30 KK_31 KC_32 KD_33
    have xV0 : wv.cell? ⟨w.heap.size, 0, none⟩ = some (.int .i64 ck) := LV.out.c 0 rfl
    have xV1 : wv.cell? ⟨w.heap.size, 1, none⟩ = some (.int .i64 cz) := LV.out.c 1 rfl
    have zV : w.heap.size < wv.heap.size := LV.out.2.2
    have z2V : w.heap.size < wv.heap.size + 1 := by omega
    have xK0 : wv.cell? ⟨w.heap.size + 1, 0, none⟩ = some (.int .i64 r) := LK.out.c 0 rfl
    have xK1 : wv.cell? ⟨w.heap.size + 1, 1, none⟩ = some (.int .i64 v) := LK.out.c 1 rfl
    have xK2 : wv.cell? ⟨w.heap.size + 1, 2, none⟩ = some (.int .i64 x) := LK.out.c 2 rfl
    have xK3 : wv.cell? ⟨w.heap.size + 1, 3, none⟩ = some (.int .i64 t) := LK.out.c 3 rfl
    have zK : w.heap.size + 1 < wv.heap.size := LK.out.2.2
    have z2K : w.heap.size + 1 < wv.heap.size + 1 := by omega
    go_wp2_with fail
    have KV_901 := Lib.hid (LV.out.alloc (.cells #[.int .i64 ck, .int .i64 cz] 26))
    clear LV
    have KK_902 := Lib.hid (LK.out.alloc (.cells #[.int .i64 ck, .int .i64 cz] 26))
    clear LK
    have KC_903 := Lib.hid (LC.out.alloc (.cells #[.int .i64 ck, .int .i64 cz] 26))
    clear LC
    have KD_904 := Lib.hid (LD.out.alloc (.cells #[.int .i64 ck, .int .i64 cz] 26))
    clear LD
    have HB905 : Hid (Below w.heap.size w (wv.alloc (.cells #[.int .i64 ck, .int .i64 cz] 26))) := HBX.out.alloc HBX.out.size _
    clear HBX
    replace HS := Lib.hid (HS.out.step (al _ (.cells #[.int .i64 ck, .int .i64 cz] 26)))
    replace HS2 := Lib.hid (HS2.out.step (al _ (.cells #[.int .i64 ck, .int .i64 cz] 26)))
    refine (permits_any 0 0 r v x t u _ [⟨ck, cz⟩] _ (cvs_one wv ck cz)).mono ?_
    rintro e u30 ⟨rfl, b30⟩
    replace HS := Lib.hid (HS.out.step b30)
    replace HS2 := Lib.hid (HS2.out.step b30)
    clear xV0 xV1 zV z2V xK0 xK1 xK2 xK3 zK z2K
    have KV_906 := Lib.hid (KV_901.out.step b30)
    clear KV_901
    have KK_907 := Lib.hid (KK_902.out.step b30)
    clear KK_902
    have KC_908 := Lib.hid (KC_903.out.step b30)
    clear KC_903
    have KD_909 := Lib.hid (KD_904.out.step b30)
    clear KD_904
    have HB910 := Lib.hid (keep2 b30 HB905.out)
    clear HB905 b30
    obtain ⟨ea, hea⟩ : ∃ ea, pmE 0 0 [⟨ck, cz⟩] r v x t u = ea := ⟨_, rfl⟩
    rw [hea] at HPM ⊢
    clear hea
    have xK0 : u30.cell? ⟨w.heap.size + 1, 0, none⟩ = some (.int .i64 r) := KK_907.out.c 0 rfl
    have xK1 : u30.cell? ⟨w.heap.size + 1, 1, none⟩ = some (.int .i64 v) := KK_907.out.c 1 rfl
    have xK2 : u30.cell? ⟨w.heap.size + 1, 2, none⟩ = some (.int .i64 x) := KK_907.out.c 2 rfl
    have xK3 : u30.cell? ⟨w.heap.size + 1, 3, none⟩ = some (.int .i64 t) := KK_907.out.c 3 rfl
    have zK : w.heap.size + 1 < u30.heap.size := KK_907.out.2.2
    have z2K : w.heap.size + 1 < u30.heap.size + 1 := by omega
    have xC0 : u30.cell? ⟨u20.heap.size, 0, none⟩ = some (.int .i64 id) := KC_908.out.c 0 rfl
    have xC1 : u30.cell? ⟨u20.heap.size, 1, none⟩ = some (.slice sa l.length sc) := KC_908.out.c 1 rfl
    have xC2 : u30.cell? ⟨u20.heap.size, 2, none⟩ = some (.int .i64 T) := KC_908.out.c 2 rfl
    have zC : u20.heap.size < u30.heap.size := KC_908.out.2.2
    have z2C : u20.heap.size < u30.heap.size + 1 := by omega
    go_wp2_with fail
    refine (check_any key id T r v x t u _ l _ HS.out).mono ?_
    rintro e u31 ⟨rfl, b31⟩
    replace HS2 := Lib.hid (HS2.out.step b31)
    clear xK0 xK1 xK2 xK3 zK z2K xC0 xC1 xC2 zC z2C
    have KV_911 := Lib.hid (KV_906.out.step b31)
    clear KV_906
    have KK_912 := Lib.hid (KK_907.out.step b31)
    clear KK_907
    have KC_913 := Lib.hid (KC_908.out.step b31)
    clear KC_908
    have KD_914 := Lib.hid (KD_909.out.step b31)
    clear KD_909
    have HB915 := Lib.hid (keep2 b31 HB910.out)
    clear HB910 b31
    rw [ck_pm HG1.out.1 HG1.out.2.2]
    obtain ⟨ef, hef⟩ : ∃ ef, pmE id T l r v x t u = ef := ⟨_, rfl⟩
    rw [hef] at HPM ⊢
    clear hef
    have xK0 : u31.cell? ⟨w.heap.size + 1, 0, none⟩ = some (.int .i64 r) := KK_912.out.c 0 rfl
    have xK1 : u31.cell? ⟨w.heap.size + 1, 1, none⟩ = some (.int .i64 v) := KK_912.out.c 1 rfl
    have xK2 : u31.cell? ⟨w.heap.size + 1, 2, none⟩ = some (.int .i64 x) := KK_912.out.c 2 rfl
    have xK3 : u31.cell? ⟨w.heap.size + 1, 3, none⟩ = some (.int .i64 t) := KK_912.out.c 3 rfl
    have zK : w.heap.size + 1 < u31.heap.size := KK_912.out.2.2
    have z2K : w.heap.size + 1 < u31.heap.size + 1 := by omega
    have xD0 : u31.cell? ⟨u21.heap.size, 0, none⟩ = some (.int .i64 id) := KD_914.out.c 0 rfl
    have xD1 : u31.cell? ⟨u21.heap.size, 1, none⟩ = some (.slice sb (l.length + 1) sd) := KD_914.out.c 1 rfl
    have xD2 : u31.cell? ⟨u21.heap.size, 2, none⟩ = some (.int .i64 T2) := KD_914.out.c 2 rfl
    have zD : u21.heap.size < u31.heap.size := KD_914.out.2.2
    have z2D : u21.heap.size < u31.heap.size + 1 := by omega
    go_wp2_with fail
    refine (check_any key id T2 r v x t u _ (l ++ [⟨ck, cz⟩]) _ HS2.out).mono ?_
    rintro e u32 ⟨rfl, b32⟩
    clear xK0 xK1 xK2 xK3 zK z2K xD0 xD1 xD2 zD z2D
    have KV_916 := Lib.hid (KV_911.out.step b32)
    clear KV_911
    have KK_917 := Lib.hid (KK_912.out.step b32)
    clear KK_912
    have KC_918 := Lib.hid (KC_913.out.step b32)
    clear KC_913
    have KD_919 := Lib.hid (KD_914.out.step b32)
    clear KD_914
    have HB920 := Lib.hid (keep2 b32 HB915.out)
    clear HB915 b32
    rw [ck_pm HG1.out.1 HG2.out.2.1]
    obtain ⟨es, hes⟩ : ∃ es, pmE id T2 (l ++ [⟨ck, cz⟩]) r v x t u = es := ⟨_, rfl⟩
    rw [hes] at HPM ⊢
    clear hes
    obtain ⟨h0, h1⟩ := HPM.out
    by_cases k0 : ef = 0
    · by_cases k1 : ea = 0
      · have k2 := h0.2 ⟨k0, k1⟩
        clear h0 h1
        subst k0 k1 k2
        go_wp2
        go_ret
        exact ⟨rfl, HB920.out⟩
      · have k2 : es ≠ 0 := fun h => k1 (h0.1 h).2
        clear h0 h1
        have ea0 : (ea != 0) = true := by simpa using k1
        have ea1 : (ea == 0) = false := by simpa using k1
        have ea2 : decide (ea = 0) = false := by simpa using k1
        have es0 : (es != 0) = true := by simpa using k2
        have es1 : (es == 0) = false := by simpa using k2
        have es2 : decide (es = 0) = false := by simpa using k2
        subst k0
        go_wp2
        go_ret
        exact ⟨rfl, HB920.out⟩
    · have k2 := h1.resolve_left k0
      clear h0 h1
      subst k2
      have es0 : (es != 0) = true := by simpa using k0
      have es1 : (es == 0) = false := by simpa using k0
      have es2 : decide (es = 0) = false := by simpa using k0
      go_wp2
      go_ret
      exact ⟨rfl, HB920.out⟩
theorem narrowlaw_any (key id : Int) (sl : Value) (l : List Cv) (ck cz r v x t u : Int) (w : World) (h : CvsAt w sl l) : Calls Try.prog 4 #[.int .i64 key, .int .i64 id, sl, .agg #[.int .i64 ck, .int .i64 cz], .agg #[.int .i64 r, .int .i64 v, .int .i64 x, .int .i64 t], .int .i64 u] w fun e w' => e = .returned (.bool true) ∧ Below w.heap.size w w' := by
  by_cases hl : l.length ≤ 12
  · cases hM : mdB key id l
    · exact narrow_md key id sl l ck cz r v x t u w h hl hM
    · by_cases hn : nrE id (tk (tg0 key id) l l.length) l ck cz = 0
      · exact narrow_main key id sl l ck cz r v x t u w h hl hM hn
      · rcases nr_fail (c := ⟨ck, cz⟩) hM rfl hn with h1 | ⟨-, h1, h2⟩
        · exact narrow_e1 key id sl l ck cz r v x t u w h hl hM h1
        · exact narrow_e30 key id sl l ck cz r v x t u w h hl hM h2 h1
  · exact narrow_len key id sl l ck cz r v x t u w h (by omega)
end Go.Proofs.Ytdifgdnndmikaaa
