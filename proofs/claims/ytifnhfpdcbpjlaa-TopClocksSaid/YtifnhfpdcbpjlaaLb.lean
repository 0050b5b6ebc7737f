/- Leases: voting. -/
import Derived.Test.YtifnhfpdcbpjlaaLa
namespace Go.Proofs.Ytifnhfpdcbpjlaa
open Go.RowKit

theorem tm_of {now : Int} (h : tmB now = true) : 0 ≤ now ∧ now ≤ 1000000000 := inr_iff.1 h
def votedV (vf vh vu h f u now : Int) : Array Value := if voB vf vh vu h f u now then vtc f h (grU vh vu h u) else vtc vf vh vu
theorem voB_no {vf vh vu h f u now : Int} (h1 : tmB now = false) : voB vf vh vu h f u now = false := by unfold voB; rw [h1]; rfl
theorem voB_ag {vf vh vu h f u now : Int} (h1 : tmB now = true) : voB vf vh vu h f u now = agB vf vh vu h f u now := by unfold voB; rw [h1]; rfl
set_option maxRecDepth 100000 in
set_option maxHeartbeats 2000000 in
theorem vote_any (vf vh vu h f u now : Int) (w : World) : Calls Try.prog 6 #[.agg (vtc vf vh vu), .agg (lsc h f u), .int .i64 now] w fun e w' => e = .returned (.tuple #[.agg (votedV vf vh vu h f u now), .bool (voB vf vh vu h f u now)]) ∧ Below w.heap.size w w' := by
  have HV := Lib.hid (((Cs.new w w.heap.size (vtc vf vh vu) 32 rfl).alloc (.cells (lsc h f u) 24)).alloc (.cells (vtc 0 0 0) 32))
  have HL := Lib.hid ((Cs.new (w.alloc (.cells (vtc vf vh vu) 32)) (w.heap.size + 1) (lsc h f u) 24 (by simp)).alloc (.cells (vtc 0 0 0) 32))
  have HO := Lib.hid (Cs.new ((w.alloc (.cells (vtc vf vh vu) 32)).alloc (.cells (lsc h f u) 24)) (w.heap.size + 1 + 1) (vtc 0 0 0) 32 (by simp))
  have HB := Lib.hid (al3 (w := w) (o1 := .cells (vtc vf vh vu) 32) (o2 := .cells (lsc h f u) 24) (o3 := .cells (vtc 0 0 0) 32))
  cases h1 : tmB now
  · have HR := Lib.hid (voB_no (vf := vf) (vh := vh) (vu := vu) (h := h) (f := f) (u := u) h1)
    have HQ := Lib.hid (show votedV vf vh vu h f u now = vtc vf vh vu by unfold votedV; rw [HR.out]; rfl)
    have H1 := Lib.hid h1; clear h1
    rw [HR.out, HQ.out]
    unfold vtc lsc at *
    go_enter Try.func6, Try.ntmps6
    go_wp2_with fail
    refine (isTime_any now _).mono ?_
    rintro e w' ⟨rfl, rfl⟩
    rw [H1.out]
    go_wp2
    exact bodyPost_ret (v := .tuple #[.agg #[.int .i64 vf, .int .i64 vh, .int .i64 vu], .bool false]) (by simp [results, Try.results6, go_sem]) rfl ⟨rfl, (by repeat (first | with_reducible exact Below.refl _ _ | with_reducible exact Below.refl _ _ | ((with_reducible refine Below.setCell ?_ ?_ _); rotate_left; focus (first | (simp; done) | (simp; omega) | omega)) | ((with_reducible refine Below.alloc ?_ ?_ _); rotate_left; focus (first | (simp; done) | (simp; omega) | omega)) | with_reducible refine Below.trans ?_ (below_drewN' _ _ _) | with_reducible refine Below.trans ?_ (below_drew _ _)))⟩
  · obtain ⟨t1, t2⟩ := tm_of h1
    have HR := Lib.hid (voB_ag (vf := vf) (vh := vh) (vu := vu) (h := h) (f := f) (u := u) h1)
    have HC := Lib.hid (agrees_any vf vh vu h f u now (((w.alloc (.cells (vtc vf vh vu) 32)).alloc (.cells (lsc h f u) 24)).alloc (.cells (vtc 0 0 0) 32)) t1 t2)
    have H1 := Lib.hid h1; clear h1 t1 t2
    cases h2 : agB vf vh vu h f u now
    · have HQ := Lib.hid (show votedV vf vh vu h f u now = vtc vf vh vu by unfold votedV; rw [HR.out, h2]; rfl)
      have H2 := Lib.hid h2; clear h2
      rw [HR.out, HQ.out, H2.out]
      unfold vtc lsc at *
      go_enter Try.func6, Try.ntmps6
      go_wp2_with fail
      refine (isTime_any now _).mono ?_
      rintro e w' ⟨rfl, rfl⟩
      rw [H1.out]
      go_wp2_with fail
      refine HC.out.mono ?_
      rintro e w1 ⟨rfl, b1⟩
      rw [H2.out]
      have HV1 := Lib.hid (HV.out.step b1)
      have HO1 := Lib.hid (HO.out.step b1)
      have HB1 := Lib.hid (keep2 b1 HB.out)
      have hz := b1.size
      simp only [World.size_alloc] at hz
      have hz1 : w.heap.size < w1.heap.size := by omega
      have hz2 : w.heap.size + 1 < w1.heap.size := by omega
      have hz3 : w.heap.size + 1 + 1 < w1.heap.size := by omega
      clear b1 hz
      have x0 := HV1.out.c 0 rfl
      have x1 := HV1.out.c 1 rfl
      have x2 := HV1.out.c 2 rfl
      have y0 := HO1.out.c 0 rfl
      have y1 := HO1.out.c 1 rfl
      have y2 := HO1.out.c 2 rfl
      have z0 := HO1.out.f 0 (by simp)
      have z1 := HO1.out.f 1 (by simp)
      have z2 := HO1.out.f 2 (by simp)
      go_wp2
      exact bodyPost_ret (v := .tuple #[.agg #[.int .i64 vf, .int .i64 vh, .int .i64 vu], .bool false]) (by simp [results, Try.results6, go_sem, y0, y1, y2]) rfl ⟨rfl, (by repeat (first | with_reducible exact HB1.out | with_reducible exact Below.refl _ _ | ((with_reducible refine Below.setCell ?_ ?_ _); rotate_left; focus (first | (simp; done) | (simp; omega) | omega)) | ((with_reducible refine Below.alloc ?_ ?_ _); rotate_left; focus (first | (simp; done) | (simp; omega) | omega)) | with_reducible refine Below.trans ?_ (below_drewN' _ _ _) | with_reducible refine Below.trans ?_ (below_drew _ _)))⟩
    · have HQ := Lib.hid (show votedV vf vh vu h f u now = vtc f h (grU vh vu h u) by unfold votedV; rw [HR.out, h2]; rfl)
      have H2 := Lib.hid h2; clear h2
      rw [HR.out, HQ.out, H2.out]
      have HG := Lib.hid (granting_any vf vh vu h f u)
      unfold vtc lsc at *
      go_enter Try.func6, Try.ntmps6
      go_wp2_with fail
      refine (isTime_any now _).mono ?_
      rintro e w' ⟨rfl, rfl⟩
      rw [H1.out]
      go_wp2_with fail
      refine HC.out.mono ?_
      rintro e w1 ⟨rfl, b1⟩
      rw [H2.out]
      have HV1 := Lib.hid (HV.out.step b1)
      have HL1 := Lib.hid (HL.out.step b1)
      have HO1 := Lib.hid (HO.out.step b1)
      have HB1 := Lib.hid (keep2 b1 HB.out)
      clear b1
      have x0 := HV1.out.c 0 rfl
      have x1 := HV1.out.c 1 rfl
      have x2 := HV1.out.c 2 rfl
      have y0 := HL1.out.c 0 rfl
      have y1 := HL1.out.c 1 rfl
      have y2 := HL1.out.c 2 rfl
      go_wp2_with fail
      refine (HG.out _).mono ?_
      rintro e w2 ⟨rfl, b2⟩
      have HO2 := Lib.hid (HO1.out.step b2)
      have HB2 := Lib.hid (keep2 b2 HB1.out)
      have hz3 : w.heap.size + 1 + 1 < w2.heap.size := HO2.out.2.2
      clear x0 x1 x2 y0 y1 y2 b2
      have y0 := HO2.out.c 0 rfl
      have y1 := HO2.out.c 1 rfl
      have y2 := HO2.out.c 2 rfl
      have z0 := HO2.out.f 0 (by simp)
      have z1 := HO2.out.f 1 (by simp)
      have z2 := HO2.out.f 2 (by simp)
      go_wp2
      exact bodyPost_ret (v := .tuple #[.agg #[.int .i64 f, .int .i64 h, .int .i64 (grU vh vu h u)], .bool true]) (by simp [results, Try.results6, go_sem, y0, y1, y2]) rfl ⟨rfl, (by repeat (first | with_reducible exact HB2.out | with_reducible exact Below.refl _ _ | ((with_reducible refine Below.setCell ?_ ?_ _); rotate_left; focus (first | (simp; done) | (simp; omega) | omega)) | ((with_reducible refine Below.alloc ?_ ?_ _); rotate_left; focus (first | (simp; done) | (simp; omega) | omega)) | with_reducible refine Below.trans ?_ (below_drewN' _ _ _) | with_reducible refine Below.trans ?_ (below_drew _ _)))⟩
theorem votedV_is (vf vh vu h f u now : Int) : ∃ a b c : Int, votedV vf vh vu h f u now = #[.int .i64 a, .int .i64 b, .int .i64 c] := by
  unfold votedV; split <;> exact ⟨_, _, _, rfl⟩
set_option maxRecDepth 100000 in
set_option maxHeartbeats 2000000 in
theorem evote_any (vf vh vu h f u now : Int) (w : World) : Calls Try.prog 16 #[.agg #[.int .i64 h, .int .i64 f, .int .i64 u, .int .i64 now], .agg (vtc vf vh vu)] w fun e w' => e = .returned (.agg (votedV vf vh vu h f u now)) ∧ Below w.heap.size w w' := by
  have HO := Lib.hid (Cs.new ((w.alloc (.cells #[.int .i64 h, .int .i64 f, .int .i64 u, .int .i64 now] 62)).alloc (.cells (vtc vf vh vu) 32)) (w.heap.size + 1 + 1) (vtc 0 0 0) 32 (by simp))
  have HB := Lib.hid (al3 (w := w) (o1 := .cells #[.int .i64 h, .int .i64 f, .int .i64 u, .int .i64 now] 62) (o2 := .cells (vtc vf vh vu) 32) (o3 := .cells (vtc 0 0 0) 32))
  have HC := Lib.hid (vote_any vf vh vu h f u now)
  obtain ⟨a, b, c, hq⟩ := votedV_is vf vh vu h f u now
  rw [hq]
  rw [hq] at HC
  clear hq
  unfold vtc lsc at *
  go_enter Try.func16, Try.ntmps16
  go_wp2_with fail
  refine (HC.out _).mono ?_
  rintro e w1 ⟨rfl, b1⟩
  have HO1 := Lib.hid (HO.out.step b1)
  have HB1 := Lib.hid (keep2 b1 HB.out)
  have hz3 : w.heap.size + 1 + 1 < w1.heap.size := HO1.out.2.2
  clear b1
  have y0 := HO1.out.c 0 rfl
  have y1 := HO1.out.c 1 rfl
  have y2 := HO1.out.c 2 rfl
  have z0 := HO1.out.f 0 (by simp)
  have z1 := HO1.out.f 1 (by simp)
  have z2 := HO1.out.f 2 (by simp)
  go_wp2
  exact bodyPost_ret (v := .agg #[.int .i64 a, .int .i64 b, .int .i64 c]) (by simp [results, Try.results16, go_sem, y0, y1, y2, hz3]) rfl ⟨rfl, (by repeat (first | with_reducible exact HB1.out | with_reducible exact Below.refl _ _ | ((with_reducible refine Below.setCell ?_ ?_ _); rotate_left; focus (first | (simp; done) | (simp; omega) | omega)) | ((with_reducible refine Below.alloc ?_ ?_ _); rotate_left; focus (first | (simp; done) | (simp; omega) | omega)) | with_reducible refine Below.trans ?_ (below_drewN' _ _ _) | with_reducible refine Below.trans ?_ (below_drew _ _)))⟩
set_option maxRecDepth 100000 in
set_option maxHeartbeats 2000000 in
theorem efit_any (vf vh vu h f u now : Int) (b1 b2 : Nat) (w : World) (t1 : 0 ≤ now) (t2 : now ≤ 1000000000) (hl : Cs w b1 (lsc h f u)) (hn : Cs w b2 #[.int .i64 now]) :
    Calls Try.prog 19 #[.agg (vtc vf vh vu), .pointer (some ⟨b1, 0, none⟩), .pointer (some ⟨b2, 0, none⟩)] w fun e w' => e = .returned (.bool (agB vf vh vu h f u now)) ∧ Below w.heap.size w w' := by
  have HC := Lib.hid (fun w => agrees_any vf vh vu h f u now w t1 t2)
  have x0 := hl.c 0 rfl
  have x1 := hl.c 1 rfl
  have x2 := hl.c 2 rfl
  have x3 := hl.2.2
  have y0 := hn.c 0 rfl
  have y1 := hn.2.2
  clear hl hn t1 t2
  unfold vtc lsc at *
  go_enter Try.func19, Try.ntmps19
  go_wp2_with fail
  refine (HC.out _).mono ?_
  rintro e w1 ⟨rfl, b1⟩
  have B1 := Lib.hid b1
  clear b1 x0 x1 x2 y0
  go_wp2
  go_ret
  exact ⟨rfl, keep2 B1.out (al _ _)⟩
def hoB (f u now : Int) : Bool := decide (0 < f) && tmB now && decide (now < u)
end Go.Proofs.Ytifnhfpdcbpjlaa
