/- Delivery: 'receive'. -/
import Derived.Test.YtifnhfpdcbpjlaaVg
import Derived.Test.YtifnhfpdcbpjlaaVh
namespace Go.Proofs.Ytifnhfpdcbpjlaa
open Go.RowKit

theorem ints_set {w : World} {base g n c x : Nat} {y : Int} {l : List Int} (h : w.ownsRow base 3 1 (.slice (some ⟨g, 0, none⟩) n c) l.length (l.map (Value.int .i64))) (hx : x < l.length) : IntsAt (w.setCell ⟨g, x, none⟩ (.int .i64 y)) (.slice (some ⟨g, 0, none⟩) n c) (l.set x y) := by
  obtain ⟨a, cap, hv, hm, hc⟩ := ints_of_row h
  obtain ⟨b, off, ha, hcs⟩ := hc (by intro e; rw [e] at hx; simp at hx)
  obtain ⟨hg, hn, hcc⟩ : some (⟨g, 0, none⟩ : Addr) = a ∧ n = l.length ∧ c = cap := by simpa using hv
  obtain ⟨rfl, rfl⟩ : g = b ∧ 0 = off := by rw [ha] at hg; simpa using hg
  subst hn hcc
  refine ⟨a, c, by rw [← hg, List.length_set], by rw [List.length_set]; exact hm, fun _ => ⟨g, 0, hg.symm, fun i z hi => ?_⟩⟩
  rw [Nat.zero_add]
  by_cases e : x = i
  · subst e
    rw [List.getElem?_set_self hx] at hi
    have h1 := hcs x _ (getD_of hx)
    rw [Nat.zero_add] at h1
    rw [World.cell?_setCell_same _ _ _ h1, Option.some.inj hi]
  · rw [List.getElem?_set_ne e] at hi
    have h1 := hcs i z hi
    rw [Nat.zero_add] at h1
    rw [World.cell?_setCell_other _ _ _ _ (by intro h2; injection h2 with _ h3; exact e h3), h1]
theorem ints_other {w : World} {g n c b : Nat} {l : List Int} (h : IntsAt w (.slice (some ⟨g, 0, none⟩) n c) l) (hne : g ≠ b) (j : Nat) (v : Value) : IntsAt (w.setCell ⟨b, j, none⟩ v) (.slice (some ⟨g, 0, none⟩) n c) l := by
  obtain ⟨a, cap, hv, hm, hc⟩ := h
  refine ⟨a, cap, hv, hm, fun hl => ?_⟩
  obtain ⟨b1, off, ha, hx⟩ := hc hl
  have hg : some (⟨g, 0, none⟩ : Addr) = a := by simp at hv; exact hv.1
  obtain rfl : b1 = g := by rw [ha] at hg; simp at hg; exact hg.1.symm
  exact ⟨b1, off, ha, fun i x h => (World.cell?_of_block (a := ⟨b1, off + i, none⟩) (Below.heap_setCell w ⟨b, j, none⟩ v b1 hne)).trans (hx i x h)⟩
/-- The window behind a new number, in a block of its own. -/
def WnS (wq : World) (seq : Int) (L : List Bool) (p q : Value) (wc : World) : Prop :=
  ∃ k g : Nat, p = .pointer (some ⟨k, 0, none⟩) ∧ q = .int .i64 0 ∧ wq.heap.size ≤ k ∧ wq.heap.size ≤ g ∧ Cs wc k #[.int .i64 seq, .slice (some ⟨g, 0, none⟩) 16 16] ∧ BosAt wc (.slice (some ⟨g, 0, none⟩) 16 16) L ∧ Below wq.heap.size wq wc
theorem WnS.after {wq w3 : World} {seq : Int} {L : List Bool} {g : Nat} (h : Below wq.heap.size wq w3) (hg : BosAt w3 (.slice (some ⟨g, 0, none⟩) 16 16) L) (hl : wq.heap.size ≤ g) :
    WnS wq seq L (.pointer (some ⟨w3.heap.size, 0, none⟩)) (.int .i64 0) (w3.alloc (.cells #[.int .i64 seq, .slice (some ⟨g, 0, none⟩) 16 16] 41)) :=
  ⟨_, g, rfl, rfl, h.size, hl, Cs.new w3 _ _ 41 rfl, hg.step (al _ _), h.alloc h.size _⟩
theorem WnS.before {wq w3 : World} {seq : Int} {L : List Bool} {g : Nat} (h : Below wq.heap.size wq w3) (hg : BosAt w3 (.slice (some ⟨g, 0, none⟩) 16 16) L) (hl : wq.heap.size < g) (hc : Cs w3 wq.heap.size #[.int .i64 0, .slice none 0 0]) :
    WnS wq seq L (.pointer (some ⟨wq.heap.size, 0, none⟩)) (.int .i64 0) ((w3.setCell ⟨wq.heap.size, 0, none⟩ (.int .i64 seq)).setCell ⟨wq.heap.size, 1, none⟩ (.slice (some ⟨g, 0, none⟩) 16 16)) :=
  ⟨_, g, rfl, rfl, Nat.le_refl _, Nat.le_of_lt hl, Cs.set (Cs.set hc 0 (by simp) (.int .i64 seq) rfl) 1 (by simp) (.slice (some ⟨g, 0, none⟩) 16 16) rfl, bos_other (bos_other hg (by omega) 0 _) (by omega) 1 _, (h.setCell (p := ⟨wq.heap.size, 0, none⟩) (Nat.le_refl _) _).setCell (p := ⟨wq.heap.size, 1, none⟩) (Nat.le_refl _) _⟩
set_option maxRecDepth 100000 in
set_option maxHeartbeats 4000000 in
/-- An order behind the window's top is executed. -/
theorem recv_new (f dn fe y : Int) (x seq : Nat) (s : Value) (va : Option Addr) (vc : Nat) (l : List Int) (n B : Nat) (w : World) (hc : Cs w n #[.int .i64 (-1), s, .int .i64 f, .slice va l.length vc, .int .i64 dn]) (hs : BosAt w s (List.replicate 16 false))
    (hv : w.ownsRow B 3 1 (.slice va l.length vc) l.length (l.map (Value.int .i64))) (ho : (inr (seq : Int) 0 1000000 && (inr fe 0 1000000000 && (inr (x : Int) 0 1199 && inr y 0 15))) = true) (hk : (inr f 0 1000000000 && (vaB l && inr dn 0 1000001)) = true) (hx : x < l.length) (hf : f ≤ fe) (hvn : ∀ g, va = some ⟨g, 0, none⟩ → g ≠ n) (hnw : n < w.heap.size) :
    Calls Try.prog 25 #[.pointer (some ⟨n, 0, none⟩), .agg #[.int .i64 seq, .int .i64 fe, .int .i64 x, .int .i64 y]] w fun e w' => e = .returned (.tuple #[.bool true, .int .i64 0]) ∧ ∃ g, w.heap.size ≤ g ∧ Cs w' n #[.int .i64 seq, .slice (some ⟨g, 0, none⟩) 16 16, .int .i64 fe, .slice va l.length vc, .int .i64 (dn + 1)] ∧ BosAt w' (.slice (some ⟨g, 0, none⟩) 16 16) (shL (List.replicate 16 false) (seq + 1)) ∧ IntsAt w' (.slice va l.length vc) (l.set x y) ∧ Below (min B n) w w' := by
  have HVL := Lib.hid (show ∀ g, va = some ⟨g, 0, none⟩ → B ≤ g ∧ g < w.heap.size from fun g h => row_lt hv h)
  have HN0 := Lib.hid (hc.alloc (.cells #[.int .i64 seq, .int .i64 fe, .int .i64 x, .int .i64 y] 49))
  have HO0 := Lib.hid (Cs.new w w.heap.size #[.int .i64 seq, .int .i64 fe, .int .i64 x, .int .i64 y] 49 rfl)
  have HB0 := Lib.hid (al w (.cells #[.int .i64 seq, .int .i64 fe, .int .i64 x, .int .i64 y] 49))
  have HS0 := Lib.hid (hs.step HB0.out)
  have HV0 := Lib.hid (row_step hv HB0.out)
  have HOK := Lib.hid ho
  have HKK := Lib.hid hk
  have HX := Lib.hid hx
  have HF := Lib.hid hf
  have HVN := Lib.hid hvn
  have HNW := Lib.hid hnw
  clear hvn hnw
  clear hc hs hv ho hk hx hf
  go_enter Try.func25, Try.ntmps25
  go_upto_region 1 with fail
  generalize w.alloc (.cells #[.int .i64 seq, .int .i64 fe, .int .i64 x, .int .i64 y] 49) = wq at *
  go_cut [26] from 8 to 26 (fun p wc => p = .bool false ∧ Below wq.heap.size wq wc)
  case first =>
    have hxl : (x : Int) < (l.length : Int) := by have := HX.out; omega
    have hxd : decide ((l.length : Int) ≤ (x : Int)) = false := by simp; omega
    have hxd2 : decide (l.length ≤ x) = false := by have := HX.out; simp; omega
    have HIV := Lib.hid (ints_of_row HV0.out)
    have HNn := Lib.hid (show ∀ w', Below wq.heap.size wq w' → Cs w' n #[.int .i64 (-1), s, .int .i64 f, .slice va l.length vc, .int .i64 dn] from fun w' h => HN0.out.step h)
    have HOo := Lib.hid (show ∀ w', Below wq.heap.size wq w' → Cs w' w.heap.size #[.int .i64 seq, .int .i64 fe, .int .i64 x, .int .i64 y] from fun w' h => HO0.out.step h)
    have o0 : wq.cell? ⟨w.heap.size, 0, none⟩ = some (.int .i64 seq) := HO0.out.c 0 rfl
    have o1 : wq.cell? ⟨w.heap.size, 1, none⟩ = some (.int .i64 fe) := HO0.out.c 1 rfl
    have o2 : wq.cell? ⟨w.heap.size, 2, none⟩ = some (.int .i64 x) := HO0.out.c 2 rfl
    have o3 : wq.cell? ⟨w.heap.size, 3, none⟩ = some (.int .i64 y) := HO0.out.c 3 rfl
    have n3 : wq.cell? ⟨n, 3, none⟩ = some (.slice va l.length vc) := HN0.out.c 3 rfl
    go_region_law (first | (go_simp; go_at_call 34; refine (isOrder_any _ _ _ _ _).mono ?_; rintro e w2 ⟨rfl, b2⟩; rw [HOK.out]; have B2 := Lib.hid (show Below wq.heap.size wq w2 from (below_drew _ _).trans b2); have p2 : w2.cell? ⟨w.heap.size, 2, none⟩ = some (.int .i64 x) := (HOo.out _ B2.out).c 2 rfl; have q3 : w2.cell? ⟨n, 3, none⟩ = some (.slice va l.length vc) := (HNn.out _ B2.out).c 3 rfl; clear b2) | (go_simp; go_at_call 35; refine (isValid_any (-1) f dn s (.slice va l.length vc) l n _ (HNn.out _ B2.out) (HIV.out.step B2.out)).mono ?_; rintro e w3 ⟨rfl, b3⟩; rw [HKK.out]; have B3 := Lib.hid (keep2 b3 B2.out); have p3 : w3.cell? ⟨w.heap.size, 2, none⟩ = some (.int .i64 x) := (HOo.out _ B3.out).c 2 rfl; have q4 : w3.cell? ⟨n, 3, none⟩ = some (.slice va l.length vc) := (HNn.out _ B3.out).c 3 rfl; clear b3))
    all_goals go_wp2
    all_goals go_meet
    all_goals exact ⟨rfl, B3.out⟩
  case rest =>
    obtain ⟨rfl, hb⟩ := hcut
    have HN1 := Lib.hid (HN0.out.step hb)
    have HO1 := Lib.hid (HO0.out.step hb)
    have HB1 := Lib.hid (keep2 hb HB0.out)
    have HS1 := Lib.hid (HS0.out.step hb)
    have HV1 := Lib.hid (row_step HV0.out hb)
    have HQ9 := Lib.hid (show (seq : Int) ≤ 1000000 from by
      have h := HOK.out
      rw [Bool.and_eq_true, inr_iff] at h
      exact h.1.2)
    clear hb HN0 HO0 HB0 HS0 HV0
    go_upto_region 3 with fail
    go_cut [6, 7] from 27 to 37 (fun p q wc' => WnS wc seq (shL (List.replicate 16 false) (seq + 1)) p q wc')
    case first =>
      have o0 : wc.cell? ⟨w.heap.size, 0, none⟩ = some (.int .i64 seq) := HO1.out.c 0 rfl
      have n0 : wc.cell? ⟨n, 0, none⟩ = some (.int .i64 (-1)) := HN1.out.c 0 rfl
      have n1 : wc.cell? ⟨n, 1, none⟩ = some s := HN1.out.c 1 rfl
      have oo0 : (wc.alloc (.cells #[.int .i64 0, .slice none 0 0] 41)).cell? ⟨w.heap.size, 0, none⟩ = some (.int .i64 seq) := (HO1.out.alloc _).c 0 rfl
      have nn0 : (wc.alloc (.cells #[.int .i64 0, .slice none 0 0] 41)).cell? ⟨n, 0, none⟩ = some (.int .i64 (-1)) := (HN1.out.alloc _).c 0 rfl
      have nn1 : (wc.alloc (.cells #[.int .i64 0, .slice none 0 0] 41)).cell? ⟨n, 1, none⟩ = some s := (HN1.out.alloc _).c 1 rfl
      go_region_law (go_simp; go_at_call 36; refine (accept_new s seq _ (HS1.out.step (by first | exact below_drew _ _ | exact (al _ _).trans (below_drew _ _))) (by have := HQ9.out; omega)).mono ?_; rintro e w3 ⟨g, rfl, hge, hg, b3⟩; have HG3 := Lib.hid hg; have HW3 := Lib.hid (show Below wc.heap.size wc w3 from by first | exact (below_drew _ _).trans b3 | exact keep2 b3 ((al wc _).trans (below_drew _ _))); (first | (have HGE := Lib.hid (show wc.heap.size < g from Nat.lt_of_lt_of_le (by simp) (show (wc.alloc (.cells #[.int .i64 0, .slice none 0 0] 41)).drew.heap.size ≤ g from hge)); have HQ3 := Lib.hid (show Cs w3 wc.heap.size #[.int .i64 0, .slice none 0 0] from ((Cs.new wc wc.heap.size #[.int .i64 0, .slice none 0 0] 41 rfl).step (below_drew _ _)).step b3); have q0 : w3.cell? ⟨wc.heap.size, 0, none⟩ = some (.int .i64 0) := HQ3.out.c 0 rfl; have q1 : w3.cell? ⟨wc.heap.size, 1, none⟩ = some (.slice none 0 0) := HQ3.out.c 1 rfl; have g0 := HQ3.out.f 0 (by simp); have g1 := HQ3.out.f 1 (by simp)) | (have HGA := Lib.hid (show wc.heap.size ≤ g from hge))); clear hg hge b3)
      all_goals go_wp2
      all_goals go_meet
      all_goals first | with_reducible exact WnS.after HW3.out HG3.out HGA.out | with_reducible exact WnS.before HW3.out HG3.out HGE.out HQ3.out
    case rest =>
      obtain ⟨k, g, rfl, rfl, hk, hgl, hcs, hg, hb⟩ := hcut
      have hgn : ¬ (g = n) := by have := HNW.out; have := HB1.out.size; omega
      have HGL := Lib.hid hgl
      have HGS := Lib.hid HB1.out.size
      clear hgl
      have HN2 := Lib.hid (HN1.out.step hb)
      have HO2 := Lib.hid (HO1.out.step hb)
      have HB2 := Lib.hid (keep2 hb HB1.out)
      have HV2 := Lib.hid (row_step HV1.out hb)
      have HK2 := Lib.hid hcs
      have HG2 := Lib.hid hg
      clear hb hk hcs hg HN1 HO1 HB1 HS1 HV1
      have HDN := Lib.hid (show 0 ≤ dn ∧ dn ≤ 1000001 from by
        have h := HKK.out
        rw [Bool.and_eq_true, Bool.and_eq_true, inr_iff, inr_iff] at h
        exact h.2.2)
      have hw : wrap64 (dn + 1) = dn + 1 := IntWalk.wrap64_in _ (by have := HDN.out; omega)
      have hfd : decide (fe < f) = false := by have := HF.out; simp; omega
      rcases HV2.out.2 with ⟨e, e2⟩ | ⟨gv, cp, cur, e, hg1, hg2, hg3⟩
      · exfalso
        have := HX.out
        omega
      obtain ⟨rfl, rfl⟩ : va = some ⟨gv, 0, none⟩ ∧ vc = cp := by simpa using e
      clear e hg1 hg2 hg3
      have hne : ¬ (gv = n) := HVN.out gv rfl
      have hggv : ¬ (g = gv) := by have := (HVL.out gv rfl).2; have := HGL.out; have := HGS.out; omega
      have hen : ¬ (n = gv) := fun e => hne e.symm
      have r0 : wc.cell? ⟨w.heap.size, 0, none⟩ = some (.int .i64 seq) := HO2.out.c 0 rfl
      have r1 : wc.cell? ⟨w.heap.size, 1, none⟩ = some (.int .i64 fe) := HO2.out.c 1 rfl
      have r2 : wc.cell? ⟨w.heap.size, 2, none⟩ = some (.int .i64 x) := HO2.out.c 2 rfl
      have r3 : wc.cell? ⟨w.heap.size, 3, none⟩ = some (.int .i64 y) := HO2.out.c 3 rfl
      have n0 : wc.cell? ⟨n, 0, none⟩ = some (.int .i64 (-1)) := HN2.out.c 0 rfl
      have n1 : wc.cell? ⟨n, 1, none⟩ = some s := HN2.out.c 1 rfl
      have n2 : wc.cell? ⟨n, 2, none⟩ = some (.int .i64 f) := HN2.out.c 2 rfl
      have n3 : wc.cell? ⟨n, 3, none⟩ = some (.slice (some ⟨gv, 0, none⟩) l.length vc) := HN2.out.c 3 rfl
      have n4 : wc.cell? ⟨n, 4, none⟩ = some (.int .i64 dn) := HN2.out.c 4 rfl
      have m0 := HN2.out.f 0 (by simp)
      have m1 := HN2.out.f 1 (by simp)
      have m2 := HN2.out.f 2 (by simp)
      have m4 := HN2.out.f 4 (by simp)
      have k0 : wc.cell? ⟨k, 0, none⟩ = some (.int .i64 seq) := HK2.out.c 0 rfl
      have k1 : wc.cell? ⟨k, 1, none⟩ = some (.slice (some ⟨g, 0, none⟩) 16 16) := HK2.out.c 1 rfl
      have v0 : wc.cell? ⟨gv, x, none⟩ = some (.int .i64 (l.getD x 0)) := by
        have h := HV2.out.cells (g := gv) rfl x (.int .i64 (l.getD x 0)) (by rw [List.getElem?_map, getD_of HX.out]; rfl)
        rwa [Go.WideShapes.add_plain, Nat.zero_add] at h
      have hon : ¬ (w.heap.size = n) := by have := HNW.out; omega
      have hno : ¬ (n = w.heap.size) := by have := HNW.out; omega
      go_wp2_with fail
      go_quiet (fail)
      go_wp2_with fail
      go_quiet (fail)
      go_wp2_with fail
      generalize hwz : World.drewN (World.drewN wc _) _ = wz
      have HA := Lib.hid (show Below wc.heap.size wc wz from hwz ▸ (below_drewN' _ _ _).trans (below_drewN' _ _ _))
      clear hwz r0 r1 r2 r3 n0 n1 n2 n3 n4 m0 m1 m2 m4 k0 k1 v0
      have HN3 := Lib.hid (HN2.out.step HA.out)
      have HO3 := Lib.hid (HO2.out.step HA.out)
      have HB3 := Lib.hid (keep2 HA.out HB2.out)
      have HV3 := Lib.hid (row_step HV2.out HA.out)
      have HK3 := Lib.hid (HK2.out.step HA.out)
      have HG3 := Lib.hid (HG2.out.step HA.out)
      clear HA HN2 HO2 HB2 HV2 HK2 HG2
      have r1 : wz.cell? ⟨w.heap.size, 1, none⟩ = some (.int .i64 fe) := HO3.out.c 1 rfl
      have n0 : wz.cell? ⟨n, 0, none⟩ = some (.int .i64 (-1)) := HN3.out.c 0 rfl
      have n1 : wz.cell? ⟨n, 1, none⟩ = some s := HN3.out.c 1 rfl
      have n2 : wz.cell? ⟨n, 2, none⟩ = some (.int .i64 f) := HN3.out.c 2 rfl
      have m0 := HN3.out.f 0 (by simp)
      have m1 := HN3.out.f 1 (by simp)
      have m2 := HN3.out.f 2 (by simp)
      have k0 : wz.cell? ⟨k, 0, none⟩ = some (.int .i64 seq) := HK3.out.c 0 rfl
      have k1 : wz.cell? ⟨k, 1, none⟩ = some (.slice (some ⟨g, 0, none⟩) 16 16) := HK3.out.c 1 rfl
      go_region
      have HN4 := Lib.hid ((Cs.set (Cs.set (Cs.set HN3.out 0 (by simp) (.int .i64 seq) rfl) 1 (by simp) (.slice (some ⟨g, 0, none⟩) 16 16) rfl) 2 (by simp) (.int .i64 fe) (vs' := #[.int .i64 seq, .slice (some ⟨g, 0, none⟩) 16 16, .int .i64 fe, .slice (some ⟨gv, 0, none⟩) l.length vc, .int .i64 dn]) rfl).step (below_drew _ _))
      have HO4 := Lib.hid ((Cs.other (Cs.other (Cs.other HO3.out hon 0 (.int .i64 seq)) hon 1 (.slice (some ⟨g, 0, none⟩) 16 16)) hon 2 (.int .i64 fe)).step (below_drew _ _))
      have hvo : (Value.slice (some ⟨gv, 0, none⟩) l.length vc).ownBlock ≠ some n := by simp [Value.ownBlock]; exact hne
      have HV4 := Lib.hid (row_step (ownsRow_setCell_other (ownsRow_setCell_other (ownsRow_setCell_other HV3.out (a := ⟨n, 0, none⟩) hvo (.int .i64 seq)) (a := ⟨n, 1, none⟩) hvo (.slice (some ⟨g, 0, none⟩) 16 16)) (a := ⟨n, 2, none⟩) hvo (.int .i64 fe)) (below_drew _ _))
      have HG4 := Lib.hid ((bos_other (bos_other (bos_other HG3.out hgn 0 (.int .i64 seq)) hgn 1 (.slice (some ⟨g, 0, none⟩) 16 16)) hgn 2 (.int .i64 fe)).step (below_drew _ _))
      clear HN3 HO3 HV3 HK3 HG3 r1 n0 n1 n2 m0 m1 m2 k0 k1
      have HBn := Lib.hid (show min B n ≤ n from Nat.min_le_right _ _)
      have HB4 := Lib.hid ((((Below.setCell (Below.mono HB3.out (Nat.le_trans HBn.out (Nat.le_of_lt HNW.out))) (p := ⟨n, 0, none⟩) HBn.out (.int .i64 seq)).setCell (p := ⟨n, 1, none⟩) HBn.out (.slice (some ⟨g, 0, none⟩) 16 16)).setCell (p := ⟨n, 2, none⟩) HBn.out (.int .i64 fe)).trans (below_drew _ _))
      clear HB3
      generalize hwy : World.drew _ = wy at *
      clear hwy
      have r2 : wy.cell? ⟨w.heap.size, 2, none⟩ = some (.int .i64 x) := HO4.out.c 2 rfl
      have r3 : wy.cell? ⟨w.heap.size, 3, none⟩ = some (.int .i64 y) := HO4.out.c 3 rfl
      have n3 : wy.cell? ⟨n, 3, none⟩ = some (.slice (some ⟨gv, 0, none⟩) l.length vc) := HN4.out.c 3 rfl
      have v0 : wy.cell? ⟨gv, x, none⟩ = some (.int .i64 (l.getD x 0)) := by
        have h := HV4.out.cells (g := gv) rfl x (.int .i64 (l.getD x 0)) (by rw [List.getElem?_map, getD_of HX.out]; rfl)
        rwa [Go.WideShapes.add_plain, Nat.zero_add] at h
      have v1 : wy.frozen? ⟨gv, x, none⟩ = false := by
        rcases HV4.out.2 with ⟨e, -⟩ | ⟨gw, cp, cur, e, -, h2, h3⟩
        · cases e
        · obtain ⟨rfl, -⟩ : gv = gw ∧ vc = cp := by simpa using e
          exact (Cs.of_heap h2).2.1 x (by have := h3.1; have := h3.2.2.1; have := HX.out; omega)
      have hxl : x < l.length := HX.out
      have hxi : (x : Int).toNat = x := Int.toNat_natCast _
      go_wp2_with fail
      go_region
      have HBg := Lib.hid (show min B n ≤ gv from Nat.le_trans (Nat.min_le_left _ _) (HVL.out gv rfl).1)
      have HN5 := Lib.hid ((Cs.other HN4.out hen x (.int .i64 y)).step (below_drew _ _))
      have HV5 := Lib.hid ((ints_set (y := y) HV4.out HX.out).step (below_drew _ _))
      have HG5 := Lib.hid ((bos_other HG4.out hggv x (.int .i64 y)).step (below_drew _ _))
      have HB5 := Lib.hid ((HB4.out.setCell (p := ⟨gv, x, none⟩) HBg.out (.int .i64 y)).trans (below_drew _ _))
      clear HN4 HV4 HG4 HB4 HO4 r2 r3 n3 v0 v1
      generalize hwx : World.drew _ = wx at *
      clear hwx
      have n4 : wx.cell? ⟨n, 4, none⟩ = some (.int .i64 dn) := HN5.out.c 4 rfl
      have m4 := HN5.out.f 4 (by simp)
      go_wp2_with fail
      exact bodyPost_ret (v := .tuple #[.bool true, .int .i64 0]) (by simp [results, Try.results25, go_sem]) rfl ⟨rfl, g, (by have := HGL.out; have := HGS.out; omega), Cs.set HN5.out 4 (by simp) (.int .i64 (dn + 1)) rfl, bos_other HG5.out hgn 4 _, ints_other HV5.out hne 4 _, HB5.out.setCell (p := ⟨n, 4, none⟩) HBn.out _⟩
end Go.Proofs.Ytifnhfpdcbpjlaa
