import Derived.Test.YteodafhgfcbdpaaUf
import Derived.Test.YteodafhgfcbdpaaVa
namespace Go.Proofs.Yteodafhgfcbdpaa
open Go.RowKit

set_option maxRecDepth 100000 in
set_option maxHeartbeats 8000000 in
theorem rmiss_no (m : Mf) (v : Value) (L : List (List Int)) (w : World) (h : RowsAt w v L) (h9 : L.length ≤ 1000) (h8 : ∀ x ∈ L, x.length ≤ 1000) (hm : slB m L = false) : Calls Try.prog 23 #[.agg #[.int .i64 m.v, .int .i64 m.c, .int .i64 m.s, .int .i64 m.r, .int .i64 m.t, v]] w (fun e w' => ∃ u, e = .returned u ∧ IntsAt w' u (msB m L) ∧ Below w.heap.size w w') := by
  have HR := Lib.hid (show msB m L = [] by unfold msB; rw [hm]; rfl)
  have HM := Lib.hid hm
  clear hm
  have HL := Lib.hid h
  have H8 := Lib.hid h8
  have H9 := Lib.hid h9
  obtain ⟨va, vc, rfl, -, -⟩ := h
  clear h8 h9
  have H0 := Lib.hid (Below.refl w.heap.size w)
  have H1 := Lib.hid (Cs.newB H0.out (w.heap.size) #[.int .i64 m.v, .int .i64 m.c, .int .i64 m.s, .int .i64 m.r, .int .i64 m.t, .slice va L.length vc] 27 (by simp))
  have H2 := Lib.hid (keep2 (al _ (.cells #[.int .i64 m.v, .int .i64 m.c, .int .i64 m.s, .int .i64 m.r, .int .i64 m.t, .slice va L.length vc] 27)) H0.out)
  clear H0
  go_enter Try.func23, Try.ntmps23
  have xs0 := H1.out.c 0 rfl
  have xs1 := H1.out.c 1 rfl
  have xs2 := H1.out.c 2 rfl
  have xs3 := H1.out.c 3 rfl
  have xs4 := H1.out.c 4 rfl
  have xs5 := H1.out.c 5 rfl
  have zs := H1.out.2.2
  go_wp2_with fail
  clear xs0 xs1 xs2 xs3 xs4 xs5 zs
  obtain ⟨W1, hW1⟩ : ∃ z9, (w.alloc (.cells #[.int .i64 m.v, .int .i64 m.c, .int .i64 m.s, .int .i64 m.r, .int .i64 m.t, .slice va L.length vc] 27)) = z9 := ⟨_, rfl⟩
  rw [hW1] at H1 H2 ⊢
  clear hW1
  go_loopw [3, 4] (fun rv iv wr => rv = .slice none 0 0 ∧ iv = .int .i64 0 ∧ Hid (Below W1.heap.size W1 wr)) (fun _ _ _ => 0)
  case atStart => exact ⟨rfl, rfl, Lib.hid (Below.refl _ _)⟩
  case round =>
    obtain ⟨rfl, rfl, HW⟩ := hrel
    have HS := Lib.hid (H1.out.step HW.out)
    have HB := Lib.hid (keep2 HW.out H2.out)
    have xs0 : wr.cell? ⟨(w.heap.size), 0, none⟩ = some (.int .i64 m.v) := HS.out.c 0 rfl
    have xs1 : wr.cell? ⟨(w.heap.size), 1, none⟩ = some (.int .i64 m.c) := HS.out.c 1 rfl
    have xs2 : wr.cell? ⟨(w.heap.size), 2, none⟩ = some (.int .i64 m.s) := HS.out.c 2 rfl
    have xs3 : wr.cell? ⟨(w.heap.size), 3, none⟩ = some (.int .i64 m.r) := HS.out.c 3 rfl
    have xs4 : wr.cell? ⟨(w.heap.size), 4, none⟩ = some (.int .i64 m.t) := HS.out.c 4 rfl
    have xs5 : wr.cell? ⟨(w.heap.size), 5, none⟩ = some (.slice va L.length vc) := HS.out.c 5 rfl
    have xsz : (w.heap.size) < wr.heap.size := HS.out.2.2
    by_cases hlt : 0 < L.length
    · have t3 : (0 : Int) < (L.length : Int) := by omega
      have t4 : decide ((0 : Int) < (L.length : Int)) = true := decide_eq_true t3
      have t5 : ¬ L = [] := by intro q; rw [q] at hlt; simp at hlt
      go_wp2_with fail
      refine (rslot_any m _ L _ (HL.out.step HB.out) H9.out H8.out).mono ?_
      rintro e w2 ⟨rfl, b2⟩
      rw [HM.out]
      clear xsz xs0 xs1 xs2 xs3 xs4 xs5
      go_wp2
      go_ret
      exact ⟨_, rfl, by rw [HR.out]; exact ints_nil _, keep2 b2 HB.out⟩
    · have t0 : L.length = 0 := by omega
      rw [t0] at *
      have t3 : ¬ (0 : Int) < ((0 : Nat) : Int) := by omega
      have t4 : decide ((0 : Int) < ((0 : Nat) : Int)) = false := by decide
      go_wp2
      go_ret
      exact ⟨_, rfl, by rw [HR.out]; exact ints_nil _, HB.out⟩
set_option maxRecDepth 100000 in
set_option maxHeartbeats 8000000 in
theorem rmiss_go (m : Mf) (v : Value) (L : List (List Int)) (w : World) (h : RowsAt w v L) (h9 : L.length ≤ 1000) (h8 : ∀ x ∈ L, x.length ≤ 1000) (hm : slB m L = true) : Calls Try.prog 23 #[.agg #[.int .i64 m.v, .int .i64 m.c, .int .i64 m.s, .int .i64 m.r, .int .i64 m.t, v]] w (fun e w' => ∃ u, e = .returned u ∧ IntsAt w' u (msB m L) ∧ Below w.heap.size w w') := by
  have HR := Lib.hid (show msB m L = msN L L.length by unfold msB; rw [hm]; rfl)
  have HM := Lib.hid hm
  clear hm
  have HL := Lib.hid h
  have H8 := Lib.hid h8
  have H9 := Lib.hid h9
  obtain ⟨va, vc, rfl, -, -⟩ := h
  clear h8 h9
  have H0 := Lib.hid (Below.refl w.heap.size w)
  have H1 := Lib.hid (Cs.newB H0.out (w.heap.size) #[.int .i64 m.v, .int .i64 m.c, .int .i64 m.s, .int .i64 m.r, .int .i64 m.t, .slice va L.length vc] 27 (by simp))
  have H2 := Lib.hid (keep2 (al _ (.cells #[.int .i64 m.v, .int .i64 m.c, .int .i64 m.s, .int .i64 m.r, .int .i64 m.t, .slice va L.length vc] 27)) H0.out)
  clear H0
  go_enter Try.func23, Try.ntmps23
  have xs0 := H1.out.c 0 rfl
  have xs1 := H1.out.c 1 rfl
  have xs2 := H1.out.c 2 rfl
  have xs3 := H1.out.c 3 rfl
  have xs4 := H1.out.c 4 rfl
  have xs5 := H1.out.c 5 rfl
  have zs := H1.out.2.2
  go_wp2_with fail
  clear xs0 xs1 xs2 xs3 xs4 xs5 zs
  obtain ⟨W1, hW1⟩ : ∃ z9, (w.alloc (.cells #[.int .i64 m.v, .int .i64 m.c, .int .i64 m.s, .int .i64 m.r, .int .i64 m.t, .slice va L.length vc] 27)) = z9 := ⟨_, rfl⟩
  rw [hW1] at H1 H2 ⊢
  clear hW1
  obtain ⟨i0, hi0, hz0, hz1, hz2⟩ := info_parts infoInt
  go_loopw [3, 4] (fun rv iv wr => ∃ k : Nat, k ≤ L.length ∧ iv = .int .i64 (k : Int) ∧ Hid (wr.ownsRow W1.heap.size 3 1 rv (msN L k).length ((msN L k).map (Value.int .i64))) ∧ Hid (Below W1.heap.size W1 wr)) (fun _ iv _ => L.length - (intOf iv).toNat)
  case atStart => exact ⟨0, by omega, rfl, Lib.hid (World.ownsRow_nil _ _ _ _), Lib.hid (Below.refl _ _)⟩
  case round =>
    obtain ⟨k, hk, rfl, HR0, HW⟩ := hrel
    have HS := Lib.hid (H1.out.step HW.out)
    have HB := Lib.hid (keep2 HW.out H2.out)
    have xs0 : wr.cell? ⟨(w.heap.size), 0, none⟩ = some (.int .i64 m.v) := HS.out.c 0 rfl
    have xs1 : wr.cell? ⟨(w.heap.size), 1, none⟩ = some (.int .i64 m.c) := HS.out.c 1 rfl
    have xs2 : wr.cell? ⟨(w.heap.size), 2, none⟩ = some (.int .i64 m.s) := HS.out.c 2 rfl
    have xs3 : wr.cell? ⟨(w.heap.size), 3, none⟩ = some (.int .i64 m.r) := HS.out.c 3 rfl
    have xs4 : wr.cell? ⟨(w.heap.size), 4, none⟩ = some (.int .i64 m.t) := HS.out.c 4 rfl
    have xs5 : wr.cell? ⟨(w.heap.size), 5, none⟩ = some (.slice va L.length vc) := HS.out.c 5 rfl
    have xsz : (w.heap.size) < wr.heap.size := HS.out.2.2
    by_cases hlt : k < L.length
    rotate_left
    · obtain rfl : k = L.length := by omega
      have t3 : ¬ (L.length : Int) < (L.length : Int) := by omega
      go_wp2
      go_ret
      exact ⟨_, rfl, by rw [HR.out]; exact ints_of_row HR0.out, HB.out⟩
    have HIL := Lib.hid hlt
    have HSU := Lib.hid (msN_succ L k)
    have HML := msN_len L k
    have t3 : (k : Int) < (L.length : Int) := by omega
    have t4 : decide ((k : Int) < (L.length : Int)) = true := decide_eq_true t3
    have g2 : L.length ≤ 1000 := H9.out
    go_wp2_with fail
    refine (rslot_any m _ L _ (HL.out.step HB.out) H9.out H8.out).mono ?_
    rintro e w2 ⟨rfl, b2⟩
    rw [HM.out]
    clear xsz xs0 xs1 xs2 xs3 xs4 xs5
    have HS2 := Lib.hid (HS.out.step b2)
    have HR2 := Lib.hid (row_step HR0.out b2)
    have HW2 := Lib.hid (keep2 b2 HW.out)
    have HB2 := Lib.hid (keep2 b2 HB.out)
    clear b2 HR0 HW HS
    obtain ⟨bb, off, rfl, ya, yc, x0, xz, -⟩ := rows_at (HL.out.step HB2.out) hlt
    obtain ⟨x, hx⟩ : ∃ z9, L.getD k [] = z9 := ⟨_, rfl⟩
    rw [hx] at x0 HSU
    clear hx hk hlt
    have xs0 : w2.cell? ⟨(w.heap.size), 0, none⟩ = some (.int .i64 m.v) := HS2.out.c 0 rfl
    have xs1 : w2.cell? ⟨(w.heap.size), 1, none⟩ = some (.int .i64 m.c) := HS2.out.c 1 rfl
    have xs2 : w2.cell? ⟨(w.heap.size), 2, none⟩ = some (.int .i64 m.s) := HS2.out.c 2 rfl
    have xs3 : w2.cell? ⟨(w.heap.size), 3, none⟩ = some (.int .i64 m.r) := HS2.out.c 3 rfl
    have xs4 : w2.cell? ⟨(w.heap.size), 4, none⟩ = some (.int .i64 m.t) := HS2.out.c 4 rfl
    have xs5 : w2.cell? ⟨(w.heap.size), 5, none⟩ = some (.slice (some ⟨bb, off, none⟩) L.length vc) := HS2.out.c 5 rfl
    have xsz : (w.heap.size) < w2.heap.size := HS2.out.2.2
    cases x with
    | nil =>
      simp only [List.length_nil] at x0
      have HUS := Lib.hid HW2.out.size
      have HNE := Lib.hid (show msN L (k + 1) = msN L k ++ [(k : Int)] from HSU.out)
      go_wp2_with (at_builtin; refine wpList_append_own _ rfl _ _ 22 rfl W1.heap.size 3 i0 _ 1 8 Try.underlying22 hi0 hz0 hz1 hz2 rfl (by decide) _ _ _ rfl (HR2.out.alloc _) ⟨w2.heap.size, 0, none⟩ 1 1 [.int .i64 (k : Int)] rfl rfl (cell_one_new _ _ _) (by simp [Value.oneCell']) (by unfold maxLen; omega) (by omega) (by have := HUS.out; simp; omega) ?_; intro v8 w8 ho8 hg8 _; have HR8 := Lib.hid ho8; have HB8 := Lib.hid (below_own (Nat.le_refl _) HW2.out HR2.out hg8); clear ho8 hg8)
      go_roundw
      case rel => exact ⟨k + 1, HIL.out, by go_num, (by rw [HNE.out, List.length_append, List.map_append]; exact HR8), HB8⟩
      case measure => have := HIL.out; simp [intOf]; omega
    | cons y x =>
      have t0 : 0 < (y :: x).length := by simp
      have t5 : ((y :: x).length : Int) ≠ 0 := by omega
      have HNE := Lib.hid (show msN L (k + 1) = msN L k by rw [HSU.out]; simp)
      obtain ⟨z, hz⟩ : ∃ z9, (y :: x).length = z9 := ⟨_, rfl⟩
      rw [hz] at x0 t0 t5
      clear hz
      have t6 : ((z : Int) == 0) = false := by simp; omega
      have t7 : ¬ z = 0 := by omega
      go_wp2
      go_roundw
      case rel => exact ⟨k + 1, HIL.out, by go_num, (by rw [HNE.out]; exact HR2), HW2⟩
      case measure => have := HIL.out; simp [intOf]; omega
theorem rmiss_any (m : Mf) (v : Value) (L : List (List Int)) (w : World) (h : RowsAt w v L) (h9 : L.length ≤ 1000) (h8 : ∀ x ∈ L, x.length ≤ 1000) : Calls Try.prog 23 #[.agg #[.int .i64 m.v, .int .i64 m.c, .int .i64 m.s, .int .i64 m.r, .int .i64 m.t, v]] w (fun e w' => ∃ u, e = .returned u ∧ IntsAt w' u (msB m L) ∧ Below w.heap.size w w') := by
  cases hm : slB m L
  · exact rmiss_no m v L w h h9 h8 hm
  · exact rmiss_go m v L w h h9 h8 hm
set_option maxRecDepth 100000 in
set_option maxHeartbeats 8000000 in
theorem rjoin_s (m : Mf) (v : Value) (L : List (List Int)) (w : World) (h : RowsAt w v L) (h9 : L.length ≤ 1000) (h8 : ∀ x ∈ L, x.length ≤ 1000) (h7 : L.flatten.length ≤ 5000) (hm : slB m L = false) : Calls Try.prog 18 #[.agg #[.int .i64 m.v, .int .i64 m.c, .int .i64 m.s, .int .i64 m.r, .int .i64 m.t, v]] w (fun e w' => ∃ u, e = .returned (.tuple #[u, .int .i64 1]) ∧ IntsAt w' u [] ∧ Below w.heap.size w w') := by
  have HM := Lib.hid hm
  clear hm
  have HL := Lib.hid h
  have H8 := Lib.hid h8
  have H9 := Lib.hid h9
  have H7 := Lib.hid h7
  obtain ⟨va, vc, rfl, -, -⟩ := h
  clear h8 h7 h9
  have H0 := Lib.hid (Below.refl w.heap.size w)
  have H1 := Lib.hid (Cs.newB H0.out (w.heap.size) #[.int .i64 m.v, .int .i64 m.c, .int .i64 m.s, .int .i64 m.r, .int .i64 m.t, .slice va L.length vc] 27 (by simp))
  have H2 := Lib.hid (keep2 (al _ (.cells #[.int .i64 m.v, .int .i64 m.c, .int .i64 m.s, .int .i64 m.r, .int .i64 m.t, .slice va L.length vc] 27)) H0.out)
  clear H0
  go_enter Try.func18, Try.ntmps18
  have xs0 := H1.out.c 0 rfl
  have xs1 := H1.out.c 1 rfl
  have xs2 := H1.out.c 2 rfl
  have xs3 := H1.out.c 3 rfl
  have xs4 := H1.out.c 4 rfl
  have xs5 := H1.out.c 5 rfl
  have zs := H1.out.2.2
  go_wp2_with fail
  refine (rslot_any m _ L _ (HL.out.step H2.out) H9.out H8.out).mono ?_
  rintro e u1 ⟨rfl, b1⟩
  clear xs0 xs1 xs2 xs3 xs4 xs5 zs
  have H3 := Lib.hid (H1.out.step b1)
  clear H1
  have H4 := Lib.hid (keep2 b1 H2.out)
  clear H2
  clear b1
  rw [HM.out]
  have xs0 := H3.out.c 0 rfl
  have xs1 := H3.out.c 1 rfl
  have xs2 := H3.out.c 2 rfl
  have xs3 := H3.out.c 3 rfl
  have xs4 := H3.out.c 4 rfl
  have xs5 := H3.out.c 5 rfl
  have zs := H3.out.2.2
  go_wp2
  exact bodyPost_ret (v := .tuple #[.slice none 0 0, .int .i64 1]) (by simp [results, Try.results18, go_sem]) rfl ⟨_, rfl, ints_nil _, H4.out⟩
set_option maxRecDepth 100000 in
set_option maxHeartbeats 8000000 in
theorem rjoin_m (m : Mf) (v : Value) (L : List (List Int)) (w : World) (h : RowsAt w v L) (h9 : L.length ≤ 1000) (h8 : ∀ x ∈ L, x.length ≤ 1000) (h7 : L.flatten.length ≤ 5000) (hm : slB m L = true) (hn : 0 < (msL L).length) : Calls Try.prog 18 #[.agg #[.int .i64 m.v, .int .i64 m.c, .int .i64 m.s, .int .i64 m.r, .int .i64 m.t, v]] w (fun e w' => ∃ u, e = .returned (.tuple #[u, .int .i64 28]) ∧ IntsAt w' u [] ∧ Below w.heap.size w w') := by
  have HM := Lib.hid hm
  have HN := Lib.hid hn
  clear hm hn
  have HL := Lib.hid h
  have H8 := Lib.hid h8
  have H9 := Lib.hid h9
  have H7 := Lib.hid h7
  obtain ⟨va, vc, rfl, -, -⟩ := h
  clear h8 h7 h9
  have H0 := Lib.hid (Below.refl w.heap.size w)
  have H1 := Lib.hid (Cs.newB H0.out (w.heap.size) #[.int .i64 m.v, .int .i64 m.c, .int .i64 m.s, .int .i64 m.r, .int .i64 m.t, .slice va L.length vc] 27 (by simp))
  have H2 := Lib.hid (keep2 (al _ (.cells #[.int .i64 m.v, .int .i64 m.c, .int .i64 m.s, .int .i64 m.r, .int .i64 m.t, .slice va L.length vc] 27)) H0.out)
  clear H0
  go_enter Try.func18, Try.ntmps18
  have xs0 := H1.out.c 0 rfl
  have xs1 := H1.out.c 1 rfl
  have xs2 := H1.out.c 2 rfl
  have xs3 := H1.out.c 3 rfl
  have xs4 := H1.out.c 4 rfl
  have xs5 := H1.out.c 5 rfl
  have zs := H1.out.2.2
  go_wp2_with fail
  refine (rslot_any m _ L _ (HL.out.step H2.out) H9.out H8.out).mono ?_
  rintro e u1 ⟨rfl, b1⟩
  clear xs0 xs1 xs2 xs3 xs4 xs5 zs
  have H3 := Lib.hid (H1.out.step b1)
  clear H1
  have H4 := Lib.hid (keep2 b1 H2.out)
  clear H2
  clear b1
  rw [HM.out]
  have xs0 := H3.out.c 0 rfl
  have xs1 := H3.out.c 1 rfl
  have xs2 := H3.out.c 2 rfl
  have xs3 := H3.out.c 3 rfl
  have xs4 := H3.out.c 4 rfl
  have xs5 := H3.out.c 5 rfl
  have zs := H3.out.2.2
  go_wp2_with fail
  refine (rmiss_any m _ L _ (HL.out.step H4.out) H9.out H8.out).mono ?_
  rintro e u2 ⟨mu, rfl, hu, b2⟩
  clear xs0 xs1 xs2 xs3 xs4 xs5 zs
  have H5 := Lib.hid (H3.out.step b2)
  clear H3
  have H6 := Lib.hid (keep2 b2 H4.out)
  clear H4
  clear b2
  rw [show msB m L = msL L by unfold msB; rw [if_pos HM.out]] at hu
  obtain ⟨ua, uc, rfl, -, -⟩ := hu
  have t1 : (0 : Int) < ((msL L).length : Int) := by have := HN.out; omega
  have t2 : decide ((0 : Int) < ((msL L).length : Int)) = true := decide_eq_true t1
  have t3 : ¬ msL L = [] := by intro e; have := HN.out; rw [e] at this; simp at this
  have t4 : 0 < (msL L).length := HN.out
  have xs0 := H5.out.c 0 rfl
  have xs1 := H5.out.c 1 rfl
  have xs2 := H5.out.c 2 rfl
  have xs3 := H5.out.c 3 rfl
  have xs4 := H5.out.c 4 rfl
  have xs5 := H5.out.c 5 rfl
  have zs := H5.out.2.2
  go_wp2
  exact bodyPost_ret (v := .tuple #[.slice none 0 0, .int .i64 28]) (by simp [results, Try.results18, go_sem]) rfl ⟨_, rfl, ints_nil _, H6.out⟩
set_option maxRecDepth 100000 in
set_option maxHeartbeats 8000000 in
theorem rjoin_ok (m : Mf) (v : Value) (L : List (List Int)) (w : World) (h : RowsAt w v L) (h9 : L.length ≤ 1000) (h8 : ∀ x ∈ L, x.length ≤ 1000) (h7 : L.flatten.length ≤ 5000) (hm : slB m L = true) (hn : ¬ 0 < (msL L).length) : Calls Try.prog 18 #[.agg #[.int .i64 m.v, .int .i64 m.c, .int .i64 m.s, .int .i64 m.r, .int .i64 m.t, v]] w (fun e w' => ∃ u, e = .returned (.tuple #[u, .int .i64 0]) ∧ IntsAt w' u L.flatten ∧ Below w.heap.size w w') := by
  have HM := Lib.hid hm
  have HN := Lib.hid hn
  clear hm hn
  have HL := Lib.hid h
  have H8 := Lib.hid h8
  have H9 := Lib.hid h9
  have H7 := Lib.hid h7
  obtain ⟨va, vc, rfl, -, -⟩ := h
  clear h8 h7 h9
  have H0 := Lib.hid (Below.refl w.heap.size w)
  have H1 := Lib.hid (Cs.newB H0.out (w.heap.size) #[.int .i64 m.v, .int .i64 m.c, .int .i64 m.s, .int .i64 m.r, .int .i64 m.t, .slice va L.length vc] 27 (by simp))
  have H2 := Lib.hid (keep2 (al _ (.cells #[.int .i64 m.v, .int .i64 m.c, .int .i64 m.s, .int .i64 m.r, .int .i64 m.t, .slice va L.length vc] 27)) H0.out)
  clear H0
  go_enter Try.func18, Try.ntmps18
  have xs0 := H1.out.c 0 rfl
  have xs1 := H1.out.c 1 rfl
  have xs2 := H1.out.c 2 rfl
  have xs3 := H1.out.c 3 rfl
  have xs4 := H1.out.c 4 rfl
  have xs5 := H1.out.c 5 rfl
  have zs := H1.out.2.2
  go_wp2_with fail
  refine (rslot_any m _ L _ (HL.out.step H2.out) H9.out H8.out).mono ?_
  rintro e u1 ⟨rfl, b1⟩
  clear xs0 xs1 xs2 xs3 xs4 xs5 zs
  have H3 := Lib.hid (H1.out.step b1)
  clear H1
  have H4 := Lib.hid (keep2 b1 H2.out)
  clear H2
  clear b1
  rw [HM.out]
  have xs0 := H3.out.c 0 rfl
  have xs1 := H3.out.c 1 rfl
  have xs2 := H3.out.c 2 rfl
  have xs3 := H3.out.c 3 rfl
  have xs4 := H3.out.c 4 rfl
  have xs5 := H3.out.c 5 rfl
  have zs := H3.out.2.2
  go_wp2_with fail
  refine (rmiss_any m _ L _ (HL.out.step H4.out) H9.out H8.out).mono ?_
  rintro e u2 ⟨mu, rfl, hu, b2⟩
  clear xs0 xs1 xs2 xs3 xs4 xs5 zs
  have H5 := Lib.hid (H3.out.step b2)
  clear H3
  have H6 := Lib.hid (keep2 b2 H4.out)
  clear H4
  clear b2
  rw [show msB m L = msL L by unfold msB; rw [if_pos HM.out]] at hu
  obtain ⟨ua, uc, rfl, -, -⟩ := hu
  have t1 : ¬ (0 : Int) < ((msL L).length : Int) := by have := HN.out; omega
  have t2 : decide ((0 : Int) < ((msL L).length : Int)) = false := decide_eq_false t1
  have t3 : (msL L).length = 0 := by have := HN.out; omega
  rw [t3] at t1 t2 ⊢
  clear t3
  have xs0 := H5.out.c 0 rfl
  have xs1 := H5.out.c 1 rfl
  have xs2 := H5.out.c 2 rfl
  have xs3 := H5.out.c 3 rfl
  have xs4 := H5.out.c 4 rfl
  have xs5 := H5.out.c 5 rfl
  have zs := H5.out.2.2
  go_wp2_with fail
  clear xs0 xs1 xs2 xs3 xs4 xs5 zs
  clear t1 t2
  obtain ⟨W1, hW1⟩ : ∃ z9, u2 = z9 := ⟨_, rfl⟩
  rw [hW1] at H5 H6 ⊢
  clear hW1
  go_loopw [4, 5] (fun rv iv wr => ∃ k : Nat, k ≤ L.length ∧ iv = .int .i64 (k : Int) ∧ Hid (wr.ownsRow W1.heap.size 3 1 rv (L.take k).flatten.length ((L.take k).flatten.map (Value.int .i64))) ∧ Hid (Below W1.heap.size W1 wr)) (fun _ iv _ => L.length - (intOf iv).toNat)
  case atStart => exact ⟨0, by omega, rfl, Lib.hid (World.ownsRow_nil _ _ _ _), Lib.hid (Below.refl _ _)⟩
  case round =>
    obtain ⟨k, hk, rfl, HR0, HW⟩ := hrel
    have HS := Lib.hid (H5.out.step HW.out)
    have HB := Lib.hid (keep2 HW.out H6.out)
    by_cases hlt : k < L.length
    rotate_left
    · obtain rfl : k = L.length := by omega
      have t3 : ¬ (L.length : Int) < (L.length : Int) := by omega
      have xs0 := HS.out.c 0 rfl
      have xs1 := HS.out.c 1 rfl
      have xs2 := HS.out.c 2 rfl
      have xs3 := HS.out.c 3 rfl
      have xs4 := HS.out.c 4 rfl
      have xs5 := HS.out.c 5 rfl
      have zs := HS.out.2.2
      have h := HR0.out
      rw [List.take_length] at h
      have HI := Lib.hid (ints_of_row h)
      clear h
      obtain ⟨ra, rc, rfl⟩ := row_slice HR0.out
      rw [List.take_length] at HI ⊢
      go_wp2
      exact bodyPost_ret (v := .tuple #[.slice ra L.flatten.length rc, .int .i64 0]) (by simp [results, Try.results18, go_sem]) rfl ⟨_, rfl, HI.out, HB.out⟩
    have HIL := Lib.hid hlt
    have HSU := Lib.hid (fl_take hlt)
    have h6 := sm_le L (k + 1)
    have h5 := H7.out
    unfold smK at h6
    rw [HSU.out, List.length_append] at h6
    obtain ⟨bb, off, rfl, ya, yc, x0, xz, hy⟩ := rows_at (HL.out.step HB.out) hlt
    have t3 : (k : Int) < (L.length : Int) := by omega
    obtain ⟨x, hx⟩ : ∃ z9, L.getD k [] = z9 := ⟨_, rfl⟩
    rw [hx] at x0 HSU h6 hy
    clear hx
    obtain ⟨P, hP⟩ : ∃ z9, (L.take k).flatten = z9 := ⟨_, rfl⟩
    rw [hP] at HSU h6 HR0
    clear hP
    obtain ⟨v8, w8, hq, ho, hg⟩ := run_appI wr W1.heap.size P.length _ _ _ x 22 HR0.out hy (by omega) HW.out.size
    have HQ := Lib.hid hq
    have HO := Lib.hid ho
    have HB8 := Lib.hid (HW.out.grown hg HW.out.size (fun g e => row_own HR0.out e))
    clear hq ho hg h5 h6 hy
    have g2 : L.length ≤ 1000 := H9.out
    have xs0 := HS.out.c 0 rfl
    have xs1 := HS.out.c 1 rfl
    have xs2 := HS.out.c 2 rfl
    have xs3 := HS.out.c 3 rfl
    have xs4 := HS.out.c 4 rfl
    have xs5 := HS.out.c 5 rfl
    have zs := HS.out.2.2
    clear hk hlt
    go_wp2_with (at_builtin; refine wpList_appI rfl _ _ 22 rfl _ _ _ rfl rfl HQ.out ?_)
    go_roundw
    case rel => exact ⟨k + 1, HIL.out, by go_num, (by rw [HSU.out, List.length_append, List.map_append]; exact HO), HB8⟩
    case measure => have := HIL.out; simp [intOf]; omega
theorem rjoin_any (m : Mf) (v : Value) (L : List (List Int)) (w : World) (h : RowsAt w v L) (h9 : L.length ≤ 1000) (h8 : ∀ x ∈ L, x.length ≤ 1000) (h7 : L.flatten.length ≤ 5000) {E : Int} {D : List Int} (hE : joE m L = E) (hD : joD E L = D) : Calls Try.prog 18 #[.agg #[.int .i64 m.v, .int .i64 m.c, .int .i64 m.s, .int .i64 m.r, .int .i64 m.t, v]] w (fun e w' => ∃ u, e = .returned (.tuple #[u, .int .i64 E]) ∧ IntsAt w' u D ∧ Below w.heap.size w w') := by
  subst hD hE
  cases hm : slB m L
  · have : joE m L = 1 := by unfold joE; rw [if_pos hm]
    rw [this]; exact rjoin_s m v L w h h9 h8 h7 hm
  · by_cases hn : 0 < (msL L).length
    · have : joE m L = 28 := by unfold joE; rw [if_neg (by rw [hm]; simp), if_pos hn]
      rw [this]; exact rjoin_m m v L w h h9 h8 h7 hm hn
    · have : joE m L = 0 := by unfold joE; rw [if_neg (by rw [hm]; simp), if_neg hn]
      rw [this]; exact rjoin_ok m v L w h h9 h8 h7 hm hn
set_option maxRecDepth 100000 in
set_option maxHeartbeats 8000000 in
theorem rnums_any (m : Mf) (w : World) : Calls Try.prog 46 #[.agg #[.int .i64 m.v, .int .i64 m.c, .int .i64 m.s, .int .i64 m.r, .int .i64 m.t]] w (fun e w' => ∃ u, e = .returned u ∧ IntsAt w' u m.nums ∧ Below w.heap.size w w') := by
  have H0 := Lib.hid (Below.refl w.heap.size w)
  have H1 := Lib.hid (Cs.newB H0.out (w.heap.size) #[.int .i64 m.v, .int .i64 m.c, .int .i64 m.s, .int .i64 m.r, .int .i64 m.t] 24 (by simp))
  have H2 := Lib.hid (keep2 (al _ (.cells #[.int .i64 m.v, .int .i64 m.c, .int .i64 m.s, .int .i64 m.r, .int .i64 m.t] 24)) H0.out)
  clear H0
  go_enter Try.func46, Try.ntmps46
  have xm0 := H1.out.c 0 rfl
  have xm1 := H1.out.c 1 rfl
  have xm2 := H1.out.c 2 rfl
  have xm3 := H1.out.c 3 rfl
  have xm4 := H1.out.c 4 rfl
  have zm := H1.out.2.2
  have H4 := Lib.hid (Cs.newB H2.out (w.heap.size + 1) #[.int .i64 m.v, .int .i64 m.c, .int .i64 m.s, .int .i64 m.r] 3 (by simp))
  have H5 := Lib.hid (H1.out.step (al _ (.cells #[.int .i64 m.v, .int .i64 m.c, .int .i64 m.s, .int .i64 m.r] 3)))
  clear H1
  have H6 := Lib.hid (keep2 (al _ (.cells #[.int .i64 m.v, .int .i64 m.c, .int .i64 m.s, .int .i64 m.r] 3)) H2.out)
  clear H2
  have HI := Lib.hid (ints_lit (w.alloc (.cells #[.int .i64 m.v, .int .i64 m.c, .int .i64 m.s, .int .i64 m.r, .int .i64 m.t] 24)) [m.v, m.c, m.s, m.r] #[.int .i64 m.v, .int .i64 m.c, .int .i64 m.s, .int .i64 m.r] 3 rfl (by simp) 4 rfl (w.heap.size + 1) (by simp))
  go_wp2
  go_ret
  exact ⟨_, rfl, HI.out, H6.out⟩
end Go.Proofs.Yteodafhgfcbdpaa
