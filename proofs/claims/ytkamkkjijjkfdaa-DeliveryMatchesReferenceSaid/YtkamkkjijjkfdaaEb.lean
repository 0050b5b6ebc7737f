/- Delivery: 'receive', an order that is too old. -/
import Derived.Test.YtkamkkjijjkfdaaDd
namespace Go.Proofs.Ytkamkkjijjkfdaa
open Go.RowKit

set_option maxRecDepth 100000 in
set_option maxHeartbeats 8000000 in
theorem recv_old (t f dn fe y seq T er : Int) (x : Nat) (s : Value) (L A : List Bool) (va : Option Addr) (vc : Nat) (l : List Int) (n B : Nat) (w : World) (hc : Cs w n #[.int .i64 t, s, .int .i64 f, .slice va l.length vc, .int .i64 dn]) (hs : BosAt w s L)
    (hv : w.ownsRow B 3 1 (.slice va l.length vc) l.length (l.map (Value.int .i64))) (ho : orB seq fe x y = true) (hk : rvB f l dn = true) (hx : x < l.length) (hvn : ∀ g, va = some ⟨g, 0, none⟩ → g ≠ n) (hnw : n < w.heap.size)
    (hacc : ∀ W, BosAt W s L → Calls Try.prog 51 #[.agg #[.int .i64 t, s], .int .i64 seq] W (AcF W T A er)) (her : er = 16) (ht : -1 ≤ t ∧ t ≤ 1000000) (hst : ¬ t - 16 < seq) :
    Calls Try.prog 33 #[.pointer (some ⟨n, 0, none⟩), .agg #[.int .i64 seq, .int .i64 fe, .int .i64 x, .int .i64 y]] w fun e w' => e = .returned (.tuple #[.bool false, .int .i64 16]) ∧ Below w.heap.size w w' := by
  have HVL := Lib.hid (show ∀ g, va = some ⟨g, 0, none⟩ → B ≤ g ∧ g < w.heap.size from fun g h => row_lt hv h)
  have HN0 := Lib.hid (hc.alloc (.cells #[.int .i64 seq, .int .i64 fe, .int .i64 x, .int .i64 y] 32))
  have HO0 := Lib.hid (Cs.new w w.heap.size #[.int .i64 seq, .int .i64 fe, .int .i64 x, .int .i64 y] 32 rfl)
  have HB0 := Lib.hid (al w (.cells #[.int .i64 seq, .int .i64 fe, .int .i64 x, .int .i64 y] 32))
  have HS0 := Lib.hid (hs.step HB0.out)
  have HV0 := Lib.hid (row_step hv HB0.out)
  have HOK := Lib.hid ho
  have HKK := Lib.hid hk
  have HX := Lib.hid hx
  have HVN := Lib.hid hvn
  have HNW := Lib.hid hnw
  have HACC := Lib.hid hacc
  clear hvn hnw hacc
  clear hc hs hv ho hk hx
  subst her
  have w1 : wrap64 (t - 16) = t - 16 := IntWalk.wrap64_in _ (by omega)
  have d1 : decide (seq > t - 16) = false := by simp; omega
  have d2 : decide (t - 16 < seq) = false := by simp; omega
  clear ht
  go_enter Try.func33, Try.ntmps33
  go_upto_region 1 with fail
  generalize w.alloc (.cells #[.int .i64 seq, .int .i64 fe, .int .i64 x, .int .i64 y] 32) = wq at *
  go_cut [26] from 8 to 26 (fun p wc => p = .bool false ∧ Below wq.heap.size wq wc)
  case first =>
    have hxl : (x : Int) < (l.length : Int) := by have := HX.out; omega
    have hxd : decide ((l.length : Int) ≤ (x : Int)) = false := by simp; omega
    have hxd2 : decide (l.length ≤ x) = false := by have := HX.out; simp; omega
    have HIV := Lib.hid (ints_of_row HV0.out)
    have HNn := Lib.hid (show ∀ w', Below wq.heap.size wq w' → Cs w' n #[.int .i64 t, s, .int .i64 f, .slice va l.length vc, .int .i64 dn] from fun w' h => HN0.out.step h)
    have HOo := Lib.hid (show ∀ w', Below wq.heap.size wq w' → Cs w' w.heap.size #[.int .i64 seq, .int .i64 fe, .int .i64 x, .int .i64 y] from fun w' h => HO0.out.step h)
    have o0 : wq.cell? ⟨w.heap.size, 0, none⟩ = some (.int .i64 seq) := HO0.out.c 0 rfl
    have o1 : wq.cell? ⟨w.heap.size, 1, none⟩ = some (.int .i64 fe) := HO0.out.c 1 rfl
    have o2 : wq.cell? ⟨w.heap.size, 2, none⟩ = some (.int .i64 x) := HO0.out.c 2 rfl
    have o3 : wq.cell? ⟨w.heap.size, 3, none⟩ = some (.int .i64 y) := HO0.out.c 3 rfl
    have n3 : wq.cell? ⟨n, 3, none⟩ = some (.slice va l.length vc) := HN0.out.c 3 rfl
    go_region_law (first | (go_simp; go_at_call 30; refine (isOrder_any _ _ _ _ _).mono ?_; rintro e w2 ⟨rfl, b2⟩; rw [show (inr seq 0 1000000 && (inr fe 0 1000000000 && (inr (x : Int) 0 1199 && inr y 0 15))) = true from HOK.out]; have B2 := Lib.hid (show Below wq.heap.size wq w2 from (below_drew _ _).trans b2); have p2 : w2.cell? ⟨w.heap.size, 2, none⟩ = some (.int .i64 x) := (HOo.out _ B2.out).c 2 rfl; have q3 : w2.cell? ⟨n, 3, none⟩ = some (.slice va l.length vc) := (HNn.out _ B2.out).c 3 rfl; clear b2) | (go_simp; go_at_call 50; refine (isValid_any t f dn s (.slice va l.length vc) l n _ (HNn.out _ B2.out) (HIV.out.step B2.out)).mono ?_; rintro e w3 ⟨rfl, b3⟩; rw [show (inr f 0 1000000000 && (vaB l && inr dn 0 1000001)) = true from HKK.out]; have B3 := Lib.hid (keep2 b3 B2.out); have p3 : w3.cell? ⟨w.heap.size, 2, none⟩ = some (.int .i64 x) := (HOo.out _ B3.out).c 2 rfl; have q4 : w3.cell? ⟨n, 3, none⟩ = some (.slice va l.length vc) := (HNn.out _ B3.out).c 3 rfl; clear b3))
    all_goals go_wp2
    all_goals go_meet
    all_goals exact ⟨rfl, B3.out⟩
  case rest =>
    obtain ⟨rfl, hb⟩ := hcut
    have HN1 := Lib.hid (HN0.out.step hb)
    have HO1 := Lib.hid (HO0.out.step hb)
    have HB1 := Lib.hid (keep2 hb HB0.out)
    have HS1 := Lib.hid (HS0.out.step hb)
    have HV1 := Lib.hid (row_step HV0.out hb)
    clear hb HN0 HO0 HB0 HS0 HV0
    go_upto_region 3 with fail
    go_cut [6, 7] from 27 to 37 (fun p q wc' => WnG wc T A 16 p q wc')
    case first =>
      have o0 : wc.cell? ⟨w.heap.size, 0, none⟩ = some (.int .i64 seq) := HO1.out.c 0 rfl
      have n0 : wc.cell? ⟨n, 0, none⟩ = some (.int .i64 t) := HN1.out.c 0 rfl
      have n1 : wc.cell? ⟨n, 1, none⟩ = some s := HN1.out.c 1 rfl
      have oo0 : (wc.alloc (.cells #[.int .i64 0, .slice none 0 0] 27)).cell? ⟨w.heap.size, 0, none⟩ = some (.int .i64 seq) := (HO1.out.alloc _).c 0 rfl
      have nn0 : (wc.alloc (.cells #[.int .i64 0, .slice none 0 0] 27)).cell? ⟨n, 0, none⟩ = some (.int .i64 t) := (HN1.out.alloc _).c 0 rfl
      have nn1 : (wc.alloc (.cells #[.int .i64 0, .slice none 0 0] 27)).cell? ⟨n, 1, none⟩ = some s := (HN1.out.alloc _).c 1 rfl
      go_region_law (go_simp; go_at_call 51; refine (HACC.out _ (HS1.out.step (by first | exact below_drew _ _ | exact (al _ _).trans (below_drew _ _)))).mono ?_; rintro e w3 ⟨aa, cc, rfl, hcl, hg, b3, hge⟩; have HG3 := Lib.hid hg; have HCL := Lib.hid hcl; have HW3 := Lib.hid (show Below wc.heap.size wc w3 from by first | exact (below_drew _ _).trans b3 | exact keep2 b3 ((al wc _).trans (below_drew _ _))); (first | (have HGE := Lib.hid (show ∀ g o, aa = some ⟨g, o, none⟩ → wc.heap.size < g from fun g o e => Nat.lt_of_lt_of_le (by simp) (show (wc.alloc (.cells #[.int .i64 0, .slice none 0 0] 27)).drew.heap.size ≤ g from hge g o e)); have HQ3 := Lib.hid (show Cs w3 wc.heap.size #[.int .i64 0, .slice none 0 0] from ((Cs.new wc wc.heap.size #[.int .i64 0, .slice none 0 0] 27 rfl).step (below_drew _ _)).step b3); have q0 : w3.cell? ⟨wc.heap.size, 0, none⟩ = some (.int .i64 0) := HQ3.out.c 0 rfl; have q1 : w3.cell? ⟨wc.heap.size, 1, none⟩ = some (.slice none 0 0) := HQ3.out.c 1 rfl; have g0 := HQ3.out.f 0 (by simp); have g1 := HQ3.out.f 1 (by simp)) | (have HGA := Lib.hid (show ∀ g o, aa = some ⟨g, o, none⟩ → wc.heap.size ≤ g from hge))); clear hg hge b3 hcl)
      all_goals go_wp2
      all_goals go_meet
      all_goals first | with_reducible exact WnG.after HW3.out HG3.out HCL.out HGA.out | with_reducible exact WnG.before HW3.out HG3.out HCL.out HGE.out HQ3.out
    case rest =>
      obtain ⟨k, cc, aa, rfl, rfl, hk, hgl, hcs, hg, hcl, hb⟩ := hcut
      have HN2 := Lib.hid (HN1.out.step hb)
      have HO2 := Lib.hid (HO1.out.step hb)
      have HB2 := Lib.hid (keep2 hb HB1.out)
      have HK2 := Lib.hid hcs
      have r0 : wc.cell? ⟨w.heap.size, 0, none⟩ = some (.int .i64 seq) := HO2.out.c 0 rfl
      have r1 : wc.cell? ⟨w.heap.size, 1, none⟩ = some (.int .i64 fe) := HO2.out.c 1 rfl
      have n0 : wc.cell? ⟨n, 0, none⟩ = some (.int .i64 t) := HN2.out.c 0 rfl
      have n2 : wc.cell? ⟨n, 2, none⟩ = some (.int .i64 f) := HN2.out.c 2 rfl
      have nz : n < wc.heap.size := HN2.out.2.2
      have rz : w.heap.size < wc.heap.size := HO2.out.2.2
      clear hb hk hcs hg hcl hgl HN1 HO1 HB1 HS1 HV1
      go_wp2_with fail
      go_quiet (fail)
      go_wp2
      exact bodyPost_ret (v := .tuple #[.bool false, .int .i64 16]) (by simp [results, Try.results33, go_sem]) rfl ⟨rfl, HB2.out.trans (by first | exact below_drewN' _ _ _ | exact (below_drewN' _ _ _).trans (below_drewN' _ _ _))⟩
end Go.Proofs.Ytkamkkjijjkfdaa
