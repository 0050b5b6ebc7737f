/- Delivery: 'receive', an order that its fence refuses. -/
import Derived.Test.YtifnhfpdcbpjlaaVi
namespace Go.Proofs.Ytifnhfpdcbpjlaa
open Go.RowKit

set_option maxRecDepth 100000 in
set_option maxHeartbeats 4000000 in
/-- An order of the window is refused by its fence. -/
theorem recv_fence (f dn fe y : Int) (x seq t c : Nat) (a : Option Addr) (va : Option Addr) (vc : Nat) (l : List Int) (L : List Bool) (n B : Nat) (w : World) (hc : Cs w n #[.int .i64 t, .slice a 16 (c + 16), .int .i64 f, .slice va l.length vc, .int .i64 dn]) (hs : BosAt w (.slice a 16 (c + 16)) L)
    (hv : w.ownsRow B 3 1 (.slice va l.length vc) l.length (l.map (Value.int .i64))) (ho : (inr (seq : Int) 0 1000000 && (inr fe 0 1000000000 && (inr (x : Int) 0 1199 && inr y 0 15))) = true) (hk : (inr f 0 1000000000 && (vaB l && inr dn 0 1000001)) = true) (hx : x < l.length) (hf : fe < f)
    (hl : L.length = 16) (hw : wkB t L = true) (ht : t ≤ 1000000) (h1 : seq ≤ t) (h2 : t - seq < 16) (h3 : L.getD (t - seq) false = false) :
    Calls Try.prog 25 #[.pointer (some ⟨n, 0, none⟩), .agg #[.int .i64 seq, .int .i64 fe, .int .i64 x, .int .i64 y]] w fun e w' => e = .returned (.tuple #[.bool false, .int .i64 23]) ∧ Below w.heap.size w w' := by
  have HN0 := Lib.hid (hc.alloc (.cells #[.int .i64 seq, .int .i64 fe, .int .i64 x, .int .i64 y] 49))
  have HO0 := Lib.hid (Cs.new w w.heap.size #[.int .i64 seq, .int .i64 fe, .int .i64 x, .int .i64 y] 49 rfl)
  have HB0 := Lib.hid (al w (.cells #[.int .i64 seq, .int .i64 fe, .int .i64 x, .int .i64 y] 49))
  have HS0 := Lib.hid (hs.step HB0.out)
  have HV0 := Lib.hid (row_step hv HB0.out)
  have HOK := Lib.hid ho
  have HKK := Lib.hid hk
  have HX := Lib.hid hx
  have HF := Lib.hid hf
  have HA3 := Lib.hid (show L.length = 16 ∧ wkB t L = true ∧ t ≤ 1000000 ∧ seq ≤ t ∧ t - seq < 16 ∧ L.getD (t - seq) false = false from ⟨hl, hw, ht, h1, h2, h3⟩)
  clear hl hw ht h1 h2 h3
  clear hc hs hv ho hk hx hf
  go_enter Try.func25, Try.ntmps25
  go_upto_region 1 with fail
  generalize w.alloc (.cells #[.int .i64 seq, .int .i64 fe, .int .i64 x, .int .i64 y] 49) = wq at *
  go_cut [26] from 8 to 26 (fun p wc => p = .bool false ∧ Below wq.heap.size wq wc)
  case first =>
    have hxl : (x : Int) < (l.length : Int) := by have := HX.out; omega
    have hxd : decide ((l.length : Int) ≤ (x : Int)) = false := by simp; omega
    have hxd2 : decide (l.length ≤ x) = false := by have := HX.out; simp; omega
    have HIV := Lib.hid (ints_of_row HV0.out)
    have HNn := Lib.hid (show ∀ w', Below wq.heap.size wq w' → Cs w' n #[.int .i64 t, .slice a 16 (c + 16), .int .i64 f, .slice va l.length vc, .int .i64 dn] from fun w' h => HN0.out.step h)
    have HOo := Lib.hid (show ∀ w', Below wq.heap.size wq w' → Cs w' w.heap.size #[.int .i64 seq, .int .i64 fe, .int .i64 x, .int .i64 y] from fun w' h => HO0.out.step h)
    have o0 : wq.cell? ⟨w.heap.size, 0, none⟩ = some (.int .i64 seq) := HO0.out.c 0 rfl
    have o1 : wq.cell? ⟨w.heap.size, 1, none⟩ = some (.int .i64 fe) := HO0.out.c 1 rfl
    have o2 : wq.cell? ⟨w.heap.size, 2, none⟩ = some (.int .i64 x) := HO0.out.c 2 rfl
    have o3 : wq.cell? ⟨w.heap.size, 3, none⟩ = some (.int .i64 y) := HO0.out.c 3 rfl
    have n3 : wq.cell? ⟨n, 3, none⟩ = some (.slice va l.length vc) := HN0.out.c 3 rfl
    go_region_law (first | (go_simp; go_at_call 34; refine (isOrder_any _ _ _ _ _).mono ?_; rintro e w2 ⟨rfl, b2⟩; rw [HOK.out]; have B2 := Lib.hid (show Below wq.heap.size wq w2 from (below_drew _ _).trans b2); have p2 : w2.cell? ⟨w.heap.size, 2, none⟩ = some (.int .i64 x) := (HOo.out _ B2.out).c 2 rfl; have q3 : w2.cell? ⟨n, 3, none⟩ = some (.slice va l.length vc) := (HNn.out _ B2.out).c 3 rfl; clear b2) | (go_simp; go_at_call 35; refine (isValid_any t f dn (.slice a 16 (c + 16)) (.slice va l.length vc) l n _ (HNn.out _ B2.out) (HIV.out.step B2.out)).mono ?_; rintro e w3 ⟨rfl, b3⟩; rw [HKK.out]; have B3 := Lib.hid (keep2 b3 B2.out); have p3 : w3.cell? ⟨w.heap.size, 2, none⟩ = some (.int .i64 x) := (HOo.out _ B3.out).c 2 rfl; have q4 : w3.cell? ⟨n, 3, none⟩ = some (.slice va l.length vc) := (HNn.out _ B3.out).c 3 rfl; clear b3))
    all_goals go_wp2
    all_goals go_meet
    all_goals exact ⟨rfl, B3.out⟩
  case rest =>
    obtain ⟨rfl, hb⟩ := hcut
    have HN1 := Lib.hid (HN0.out.step hb)
    have HO1 := Lib.hid (HO0.out.step hb)
    have HB1 := Lib.hid (keep2 hb HB0.out)
    have HS1 := Lib.hid (HS0.out.step hb)
    have HV1 := Lib.hid (row_step HV0.out hb)
    have HQ9 := Lib.hid (show (seq : Int) ≤ 1000000 from by
      have h := HOK.out
      rw [Bool.and_eq_true, inr_iff] at h
      exact h.1.2)
    clear hb HN0 HO0 HB0 HS0 HV0
    go_upto_region 3 with fail
    go_cut [6, 7] from 27 to 37 (fun p q wc' => (∃ k : Nat, p = .pointer (some ⟨k, 0, none⟩)) ∧ q = .int .i64 0 ∧ Below wc.heap.size wc wc')
    case first =>
      have o0 : wc.cell? ⟨w.heap.size, 0, none⟩ = some (.int .i64 seq) := HO1.out.c 0 rfl
      have n0 : wc.cell? ⟨n, 0, none⟩ = some (.int .i64 t) := HN1.out.c 0 rfl
      have n1 : wc.cell? ⟨n, 1, none⟩ = some (.slice a 16 (c + 16)) := HN1.out.c 1 rfl
      have oo0 : (wc.alloc (.cells #[.int .i64 0, .slice none 0 0] 41)).cell? ⟨w.heap.size, 0, none⟩ = some (.int .i64 seq) := (HO1.out.alloc _).c 0 rfl
      have nn0 : (wc.alloc (.cells #[.int .i64 0, .slice none 0 0] 41)).cell? ⟨n, 0, none⟩ = some (.int .i64 t) := (HN1.out.alloc _).c 0 rfl
      have nn1 : (wc.alloc (.cells #[.int .i64 0, .slice none 0 0] 41)).cell? ⟨n, 1, none⟩ = some (.slice a 16 (c + 16)) := (HN1.out.alloc _).c 1 rfl
      go_region_law (go_simp; go_at_call 36; refine (accept_old t seq c a L _ (HS1.out.step (by first | exact below_drew _ _ | exact (al _ _).trans (below_drew _ _))) HA3.out.1 HA3.out.2.1 HA3.out.2.2.1 HA3.out.2.2.2.1 HA3.out.2.2.2.2.1 HA3.out.2.2.2.2.2).mono ?_; rintro e w3 ⟨⟨aa, cc, rfl⟩, b3⟩; have HW3 := Lib.hid (show Below wc.heap.size wc w3 from by first | exact (below_drew _ _).trans b3 | exact keep2 b3 ((al wc _).trans (below_drew _ _))); (first | (have HQ3 := Lib.hid (show Cs w3 wc.heap.size #[.int .i64 0, .slice none 0 0] from ((Cs.new wc wc.heap.size #[.int .i64 0, .slice none 0 0] 41 rfl).step (below_drew _ _)).step b3); have q0 : w3.cell? ⟨wc.heap.size, 0, none⟩ = some (.int .i64 0) := HQ3.out.c 0 rfl; have q1 : w3.cell? ⟨wc.heap.size, 1, none⟩ = some (.slice none 0 0) := HQ3.out.c 1 rfl; have g0 := HQ3.out.f 0 (by simp); have g1 := HQ3.out.f 1 (by simp)) | skip); clear b3)
      all_goals go_wp2
      all_goals go_meet
      all_goals first | with_reducible exact ⟨⟨_, rfl⟩, rfl, HW3.out.alloc HW3.out.size _⟩ | exact ⟨⟨_, rfl⟩, rfl, (HW3.out.setCell (p := ⟨wc.heap.size, 0, none⟩) (Nat.le_refl _) _).setCell (p := ⟨wc.heap.size, 1, none⟩) (Nat.le_refl _) _⟩
    case rest =>
      obtain ⟨⟨k, rfl⟩, rfl, hb⟩ := hcut
      have HN2 := Lib.hid (HN1.out.step hb)
      have HO2 := Lib.hid (HO1.out.step hb)
      have HB2 := Lib.hid (keep2 hb HB1.out)
      clear hb HN1 HO1 HB1 HS1 HV1
      have hfd : decide (fe < f) = true := by have := HF.out; simp; omega
      have r0 : wc.cell? ⟨w.heap.size, 0, none⟩ = some (.int .i64 seq) := HO2.out.c 0 rfl
      have r1 : wc.cell? ⟨w.heap.size, 1, none⟩ = some (.int .i64 fe) := HO2.out.c 1 rfl
      have n0 : wc.cell? ⟨n, 0, none⟩ = some (.int .i64 t) := HN2.out.c 0 rfl
      have n2 : wc.cell? ⟨n, 2, none⟩ = some (.int .i64 f) := HN2.out.c 2 rfl
      go_wp2_with fail
      go_quiet (fail)
      go_wp2_with fail
      go_quiet (fail)
      go_wp2_with fail
      exact bodyPost_ret (v := .tuple #[.bool false, .int .i64 23]) (by simp [results, Try.results25, go_sem]) rfl ⟨rfl, (HB2.out.trans (below_drewN' _ _ _)).trans (below_drewN' _ _ _)⟩
end Go.Proofs.Ytifnhfpdcbpjlaa
