/- Windows after numbers: 'accepted', the walk. -/
import Derived.Test.YtebeaekiaikgmaaYf
namespace Go.Proofs.Ytebeaekiaikgmaa
open Go.RowKit

theorem row_lt1 {w : World} {base e s n j : Nat} {v : Value} {xs : List Value} (h : w.ownsRow base e s v n xs) (hj : v.ownBlock = some j) : j < w.heap.size := by
  rcases h.2 with ⟨h1, -⟩ | ⟨g, cap, cur, h1, h2, h3, -⟩
  · rw [h1] at hj; cases hj
  · rw [h1] at hj; cases hj
    exact (Array.getElem?_eq_some_iff.1 h3).1
theorem cs_grown {w w' : World} {g : Nat} {vs : Array Value} {row : Option Nat} (h : Cs w g vs) (hg : w.grownBy w' row) (hne : row ≠ some g) : Cs w' g vs := by
  have e := hg.block g h.2.2 (fun e => hne e.symm)
  refine ⟨fun j hj => (World.cell?_of_block (a := ⟨g, j, none⟩) e).trans (h.1 j hj), fun j hj => ?_, ?_⟩
  · have := h.2.1 j hj
    unfold World.frozen? at this ⊢
    rw [e]
    exact this
  · have h1 := Array.getElem?_eq_some_iff.1 (e.trans (Array.getElem?_eq_getElem h.2.2))
    exact h1.1
theorem store2 {w w0 : World} {R g off n c : Nat} {L M : List Bool} {ou : Value} {x0 x1 y0 : Value} (hR : Cs w R #[x0, x1]) (hq : BosAt w (.slice (some ⟨g, off, none⟩) n c) L) (hg : g ≠ R) (ho : BosAt w ou M) (hn : ∀ b o m d, ou = .slice (some ⟨b, o, none⟩) m d → b ≠ R) (hb : Below R w0 w) :
    Cs ((w.setCell ⟨R, 0, none⟩ y0).setCell ⟨R, 1, none⟩ (.slice (some ⟨g, off, none⟩) n c)) R #[y0, .slice (some ⟨g, off, none⟩) n c] ∧ BosAt ((w.setCell ⟨R, 0, none⟩ y0).setCell ⟨R, 1, none⟩ (.slice (some ⟨g, off, none⟩) n c)) (.slice (some ⟨g, off, none⟩) n c) L ∧ BosAt ((w.setCell ⟨R, 0, none⟩ y0).setCell ⟨R, 1, none⟩ (.slice (some ⟨g, off, none⟩) n c)) ou M ∧ Below R w0 ((w.setCell ⟨R, 0, none⟩ y0).setCell ⟨R, 1, none⟩ (.slice (some ⟨g, off, none⟩) n c)) := by
  refine ⟨Cs.set (Cs.set hR 0 (by simp) y0 rfl) 1 (by simp) _ rfl, bos_oth (bos_oth hq hg _ _) hg _ _, ?_, (hb.setCell (p := ⟨R, 0, none⟩) (Nat.le_refl _) _).setCell (p := ⟨R, 1, none⟩) (Nat.le_refl _) _⟩
  have ho2 := ho
  obtain ⟨a, cap, rfl, hm, hc⟩ := ho2
  by_cases hM : M = []
  · subst hM
    exact ⟨a, cap, rfl, hm, fun h => absurd rfl h⟩
  · obtain ⟨b, o, rfl, -⟩ := hc hM
    have hne := hn b o _ _ rfl
    exact bos_oth (bos_oth ho hne _ _) hne _ _
set_option maxRecDepth 100000 in
set_option maxHeartbeats 8000000 in
theorem accepted_any (v : Value) (l : List Int) (w : World) (h : IntsAt w v l) (h9 : l.length ≤ 100) :
    Calls Try.prog 30 #[v] w fun e w' => ∃ (b off c : Nat) (ou : Value), e = .returned (.tuple #[.agg #[.int .i64 (stT l l.length).1, .slice (some ⟨b, off, none⟩) 16 c], ou]) ∧ BosAt w' (.slice (some ⟨b, off, none⟩) 16 c) (stT l l.length).2 ∧ BosAt w' ou (okL l l.length) ∧ Below w.heap.size w w' := by
  have HI0 := Lib.hid h
  obtain ⟨sa, sc, rfl, hm, -⟩ := h
  unfold maxLen at hm
  have H9 := Lib.hid h9
  have HR0 := Lib.hid (Cs.new w w.heap.size #[.int .i64 0, .slice none 0 0] 28 rfl)
  have HB0 := Lib.hid (al w (.cells #[.int .i64 0, .slice none 0 0] 28))
  obtain ⟨i0, hi, hz0, hz1, hz2⟩ := info_parts infoB
  have HI := Lib.hid (show _ ∧ _ ∧ _ ∧ _ from ⟨hi, hz0, hz1, hz2⟩)
  clear hi hz0 hz1 hz2 h9
  go_enter Try.func30, Try.ntmps30
  go_wp2_with fail
  refine (fresh1_any _).mono ?_
  rintro e u1 ⟨fs, rfl, hf, b1⟩
  have hf2 : BosAt _ fs q0 := bos_of_row (xs := List.replicate 16 false) hf
  obtain ⟨fa, fc, rfl⟩ := row_slice hf
  have hfc := Lib.hid (row_cap hf)
  have hfr := Lib.hid (show ∀ k o, fa = some ⟨k, o, none⟩ → w.heap.size < k from fun k o e => by have h1 := row_fresh hf e; simp at h1; omega)
  clear hf
  obtain ⟨fb, fo, rfl⟩ : ∃ b off, fa = some ⟨b, off, none⟩ := by
    obtain ⟨a, c, he, -, hx⟩ := hf2
    obtain ⟨b, off, ha, -⟩ := hx (by decide)
    obtain ⟨rfl, -, -⟩ : fa = a ∧ 16 = q0.length ∧ fc = c := by simpa using he
    exact ⟨b, off, ha⟩
  have HFB := Lib.hid (show fb ≠ w.heap.size from fun e => by have := hfr.out fb fo rfl; omega)
  have HF1 := Lib.hid (hf2.step (al u1 (.cells #[.int .i64 (-1), .slice (some ⟨fb, fo, none⟩) 16 fc] 28)))
  have HC1 := Lib.hid (Cs.new u1 u1.heap.size #[.int .i64 (-1), .slice (some ⟨fb, fo, none⟩) 16 fc] 28 rfl)
  have HR1 := Lib.hid ((HR0.out.step b1).alloc (.cells #[.int .i64 (-1), .slice (some ⟨fb, fo, none⟩) 16 fc] 28))
  have HB1 := Lib.hid ((keep2 b1 HB0.out).alloc (keep2 b1 HB0.out).size (.cells #[.int .i64 (-1), .slice (some ⟨fb, fo, none⟩) 16 fc] 28))
  have HZ := Lib.hid (show w.heap.size < u1.heap.size from (HR0.out.step b1).2.2)
  have HZ1 := Lib.hid (show u1.heap.size + 1 ≤ (u1.alloc (.cells #[.int .i64 (-1), .slice (some ⟨fb, fo, none⟩) 16 fc] 28)).heap.size by simp)
  clear hf2 b1
  go_wp2_with fail
  obtain ⟨W4, hW4⟩ : ∃ z, u1.alloc (.cells #[.int .i64 (-1), .slice (some ⟨fb, fo, none⟩) 16 fc] 28) = z := ⟨_, rfl⟩
  rw [hW4] at HF1 HC1 HR1 HB1 HZ1 ⊢
  clear hW4
  obtain ⟨B4, hB4⟩ : ∃ n, u1.heap.size = n := ⟨_, rfl⟩
  rw [hB4] at HC1 HZ HZ1 ⊢
  clear hB4
  go_loopw [5, 6] (fun ov iv wr => ∃ k : Nat, k ≤ l.length ∧ iv = .int .i64 k ∧ Hid (wr.ownsRow (B4 + 1) 4 1 ov k ((okL l k).map Value.bool)) ∧ Hid (∃ b off c, Cs wr B4 #[.int .i64 (stT l k).1, .slice (some ⟨b, off, none⟩) 16 c] ∧ BosAt wr (.slice (some ⟨b, off, none⟩) 16 c) (stT l k).2 ∧ 16 ≤ c ∧ b ≠ w.heap.size) ∧ Hid (Below B4 W4 wr) ∧ Hid (B4 + 1 ≤ wr.heap.size)) (fun _ iv _ => l.length - (intOf iv).toNat)
  case atStart => exact ⟨0, by omega, rfl, Lib.hid (World.ownsRow_nil _ _ _ _), Lib.hid ⟨fb, fo, fc, HC1.out, HF1.out, hfc.out, HFB.out⟩, Lib.hid (Below.refl _ _), HZ1⟩
  case round =>
    clear HF1 HC1
    obtain ⟨k, hk, rfl, HO, HS, HW, HSZ⟩ := hrel
    have HK9 := Lib.hid (show k ≤ 100 from Nat.le_trans hk H9.out)
    have hkw : wrap64 ((k : Int) + 1) = k + 1 := IntWalk.wrap64_in _ (by have := HK9.out; omega)
    have HK8 := Lib.hid (show ((k + 1 : Nat) : Int) = (k : Int) + 1 by omega)
    obtain ⟨oa, oc, rfl⟩ := row_slice HO.out
    obtain ⟨b, off, c, hC, hq, hc, hgb⟩ := HS.out
    have HGB := Lib.hid hgb
    clear hgb
    have HOB0 := Lib.hid (show ∀ j, (Value.slice oa k oc).ownBlock = some j → j < wr.heap.size from fun j hj => row_lt1 HO.out hj)
    have HWI := Lib.hid (show Below w.heap.size w wr from HB1.out.trans (HW.out.mono (Nat.le_of_lt HZ.out)))
    have HRW := Lib.hid (HR1.out.low HW.out HZ.out)
    by_cases hlt : k < l.length
    · have HLT := Lib.hid hlt
      have t1 : (k : Int) < l.length := by omega
      have t2 : decide ((k : Int) < l.length) = true := by simp; omega
      have t3 : (0 : Int) ≤ k := by omega
      obtain ⟨a2, cap2, hva, -, hcs⟩ := HI0.out.step HWI.out
      obtain ⟨rfl, rfl⟩ : sa = a2 ∧ sc = cap2 := by simpa using hva
      obtain ⟨bk, ok, rfl, hcs2⟩ := hcs (by intro h; rw [h] at hlt; simp at hlt)
      have x0 := hcs2 k _ (getD_of hlt)
      have HWFk := Lib.hid (st_wf l k)
      have HST := Lib.hid (show stT l (k + 1) = (accT (stT l k).1 (stT l k).2 (l.getD k 0), accL (stT l k).1 (stT l k).2 (l.getD k 0)) ∧ okV l k = (accE (stT l k).1 (stT l k).2 (l.getD k 0) == 0) from ⟨rfl, rfl⟩)
      have HOS := Lib.hid (okL_snoc l k)
      clear hcs hcs2 hva hk HS
      obtain ⟨t, ht⟩ : ∃ t, (stT l k).1 = t := ⟨_, rfl⟩
      obtain ⟨L, hL⟩ : ∃ L, (stT l k).2 = L := ⟨_, rfl⟩
      obtain ⟨s, hs⟩ : ∃ s, l.getD k 0 = s := ⟨_, rfl⟩
      rw [ht, hL, hs] at HST
      rw [ht, hL] at HWFk
      rw [hL] at hq
      rw [ht] at hC
      rw [hs] at x0
      clear ht hL hs
      have HQ := Lib.hid hq
      have HCC := Lib.hid hC
      have hc16 := Lib.hid hc
      have c0 := hC.c 0 rfl
      have c1 := hC.c 1 rfl
      have cz := hC.2.2
      have xz := World.block_lt_of_cell? _ _ x0
      have xz : bk < wr.heap.size := xz
      clear hq hC hc
      obtain ⟨t', ht'⟩ : ∃ z, accT t L s = z := ⟨_, rfl⟩
      obtain ⟨L', hL'⟩ : ∃ z, accL t L s = z := ⟨_, rfl⟩
      obtain ⟨er, her⟩ : ∃ z, accE t L s = z := ⟨_, rfl⟩
      have HAC := Lib.hid (show ∀ W, BosAt W (.slice (some ⟨b, off, none⟩) 16 c) L → Calls Try.prog 15 #[.agg #[.int .i64 t, .slice (some ⟨b, off, none⟩) 16 c], .int .i64 s] W fun e w' => ∃ (b' off' c' : Nat), e = .returned (.tuple #[.agg #[.int .i64 t', .slice (some ⟨b', off', none⟩) 16 c'], .int .i64 er]) ∧ 16 ≤ c' ∧ W.heap.size ≤ b' ∧ BosAt w' (.slice (some ⟨b', off', none⟩) 16 c') L' ∧ Below W.heap.size W w' from fun W hW => by
        rw [← ht', ← hL', ← her]
        exact accF_any t b off c L s W hW HWFk.out hc16.out)
      have HL16 := Lib.hid (show L'.length = 16 by rw [← hL']; exact (wf_acc s HWFk.out).1)
      rw [ht', hL', her] at HST
      clear ht' hL' her
      go_upto_region 6 with fail
      go_cut [7, 8] from 16 to 24 (fun p q wc => AcX wr t' L' er p q wc)
      case first =>
        have d0 : (wr.alloc (.cells #[.int .i64 0, .slice none 0 0] 28)).cell? ⟨B4, 0, none⟩ = some (.int .i64 t) := (HCC.out.alloc _).c 0 rfl
        have d1 : (wr.alloc (.cells #[.int .i64 0, .slice none 0 0] 28)).cell? ⟨B4, 1, none⟩ = some (.slice (some ⟨b, off, none⟩) 16 c) := (HCC.out.alloc _).c 1 rfl
        have d2 : (wr.alloc (.cells #[.int .i64 0, .slice none 0 0] 28)).cell? ⟨bk, ok + k, none⟩ = some (.int .i64 s) := keep1 (al wr _) x0
        go_region_law (go_simp; go_at_call 15; refine (HAC.out _ (HQ.out.step (by first | exact below_drew _ _ | exact keep2 (below_drew _ _) (al _ _) | exact (al _ _).trans (below_drew _ _)))).mono ?_; rintro e w3 ⟨b', o', c', rfl, hc', hb', hq', b3⟩; have HC3 := Lib.hid hc'; have HQ3 := Lib.hid hq'; have HLT3 := Lib.hid (bos_lt hq' HL16.out); (first | (have HW3 := Lib.hid (show Below wr.heap.size wr w3 from (below_drew _ _).trans b3); have HB3 := Lib.hid (show wr.heap.size ≤ b' from hb')) | (have HW3 := Lib.hid (show Below wr.heap.size wr w3 from keep2 b3 ((al wr _).trans (below_drew _ _))); have HB3 := Lib.hid (show wr.heap.size < b' from Nat.lt_of_lt_of_le (show wr.heap.size < (wr.alloc (.cells #[.int .i64 0, .slice none 0 0] 28)).drew.heap.size by simp) hb'); have HN3 := Lib.hid (show Cs w3 wr.heap.size #[.int .i64 0, .slice none 0 0] from ((Cs.new wr wr.heap.size #[.int .i64 0, .slice none 0 0] 28 rfl).step (below_drew _ _)).step b3); have y0 := HN3.out.c 0 rfl; have y1 := HN3.out.c 1 rfl; have g0 := HN3.out.f 0 (by simp); have g1 := HN3.out.f 1 (by simp))); clear hc' hb' hq' b3)
        all_goals go_wp2
        all_goals go_meet
        all_goals first | with_reducible exact AcX.after HW3.out HB3.out HC3.out HQ3.out HLT3.out | with_reducible exact AcX.before HW3.out HB3.out HC3.out HQ3.out HN3.out
      case rest =>
        obtain ⟨g, b', o', c', rfl, rfl, hg, hb', hbg, hcs, hq', hc', hbel⟩ := hcut
        have HX := Lib.hid (show wr.heap.size ≤ g ∧ wr.heap.size ≤ b' ∧ b' ≠ g ∧ 16 ≤ c' from ⟨hg, hb', hbg, hc'⟩)
        have HN := Lib.hid hcs
        have HQN := Lib.hid hq'
        have HBN := Lib.hid hbel
        have HON := Lib.hid (row_step HO.out hbel)
        have HCN := Lib.hid (HCC.out.step hbel)
        have HRN := Lib.hid (HRW.out.step hbel)
        have HSN := Lib.hid (Nat.le_trans HSZ.out hbel.size)
        clear hg hb' hbg hcs hq' hc' hbel c0 c1 cz x0 xz HO HQ HCC HRW HAC t1 t2 t3
        have k1 : k + 1 ≤ maxLen := by have := HK9.out; unfold maxLen; omega
        have k2 : (k + 1) * 1 ≤ 140737488355328 := by have := HK9.out; omega
        obtain ⟨eb, heb⟩ : ∃ z, (er == (0 : Int)) = z := ⟨_, rfl⟩
        have heb2 : decide (er = 0) = eb := by rw [← heb]; by_cases h : er = 0 <;> simp [h]
        have HEB := Lib.hid (show okV l k = eb by rw [HST.out.2, heb])
        have HB5 := Lib.hid (show Below (B4 + 1) wc (wc.alloc (.cells #[.bool eb] 4)) from (Below.refl _ _).alloc HSN.out _)
        have HR5 := Lib.hid (row_step HON.out (al wc (.cells #[.bool eb] 4)))
        have k3 := Lib.hid (Nat.le_trans HSN.out (al wc (.cells #[.bool eb] 4)).size)
        have HOB := Lib.hid (show ∀ j, (Value.slice oa k oc).ownBlock = some j → j < wr.heap.size from fun j hj => HOB0.out j hj)
        go_wp2_with (at_builtin; refine wpList_append_own _ rfl _ _ 26 rfl (B4 + 1) 4 i0 (.bool false) 1 1 Try.underlying26 HI.out.1 HI.out.2.1 HI.out.2.2.1 HI.out.2.2.2 rfl (by decide) _ _ _ rfl HR5.out ⟨wc.heap.size, 0, none⟩ 1 1 [.bool eb] rfl rfl (one_at (Cs.new _ _ _ _ rfl)) (by simp [Value.oneCell']) k1 k2 k3.out ?_; intro v' w1 hown' hgrow hnil; clear hnil; obtain ⟨pa, pc, rfl⟩ := row_slice hown'; have HP1 := Lib.hid hown'; have HB6 := Lib.hid (HB5.out.grown hgrow k3.out (fun j e => row_own HR5.out e)); have HC6 := Lib.hid (HCN.out.low HB6.out (Nat.lt_succ_self _)); have HN6 := Lib.hid (show Cs w1 g #[.int .i64 t', .slice (some ⟨b', o', none⟩) 16 c'] from cs_grown (HN.out.alloc (.cells #[.bool eb] 4)) hgrow (fun e => by have h1 := HOB.out g e; have h2 := HX.out.1; omega)); have HQ6 := Lib.hid (bos_grown (HQN.out.step (al wc (.cells #[.bool eb] 4))) hgrow (fun e => by have h1 := HOB.out b' e; have h2 := HX.out.2.1; omega)); have z0 := HN6.out.c 0 rfl; have z1 := HN6.out.c 1 rfl; have zz := HN6.out.2.2; have v0 := HC6.out.c 0 rfl; have v1 := HC6.out.c 1 rfl; have f0 := HC6.out.f 0 (by simp); have f1 := HC6.out.f 1 (by simp); have vz := HC6.out.2.2; clear hown' hgrow)
        clear z0 z1 zz v0 v1 f0 f1 vz k1 k2 heb heb2
        have HNB := Lib.hid (show b' ≠ B4 by have h1 := HX.out.2.1; have h2 := HSZ.out; omega)
        have HF1 := Lib.hid (Cs.set (Cs.set HC6.out 0 (by simp) (.int .i64 t') rfl) 1 (by simp) (.slice (some ⟨b', o', none⟩) 16 c') (vs' := #[.int .i64 t', .slice (some ⟨b', o', none⟩) 16 c']) rfl)
        have HF2 := Lib.hid (bos_oth (bos_oth HQ6.out HNB.out 0 (.int .i64 t')) HNB.out 1 (.slice (some ⟨b', o', none⟩) 16 c'))
        have HF3 := Lib.hid (ownsRow_setCell_below (ownsRow_setCell_below HP1.out (a := ⟨B4, 0, none⟩) (Nat.lt_succ_self _) (.int .i64 t')) (a := ⟨B4, 1, none⟩) (Nat.lt_succ_self _) (.slice (some ⟨b', o', none⟩) 16 c'))
        have HF4 := Lib.hid ((((HW.out.trans (HBN.out.mono (Nat.le_trans (Nat.le_succ _) HSZ.out))).trans (HB6.out.mono (Nat.le_succ _))).setCell (p := ⟨B4, 0, none⟩) (Nat.le_refl _) (.int .i64 t')).setCell (p := ⟨B4, 1, none⟩) (Nat.le_refl _) (.slice (some ⟨b', o', none⟩) 16 c'))
        have HF5 := Lib.hid (show B4 + 1 ≤ ((w1.setCell ⟨B4, 0, none⟩ (.int .i64 t')).setCell ⟨B4, 1, none⟩ (.slice (some ⟨b', o', none⟩) 16 c')).heap.size from Nat.succ_le_of_lt HF1.out.2.2)
        clear HP1 HC6 HQ6 HN6 HB6
        go_wp2
        go_roundw
        case rel => exact ⟨k + 1, HLT.out, by (first | rw [hkw] | skip); rw [HK8.out], Lib.hid (by rw [HOS.out, List.map_append, HEB.out]; exact HF3.out), Lib.hid ⟨b', o', c', by rw [HST.out.1]; exact HF1.out, by rw [HST.out.1]; exact HF2.out, HX.out.2.2.2, by have h1 := HX.out.2.1; have h2 := HSZ.out; have h3 := HZ.out; omega⟩, HF4, HF5⟩
        case measure => have h2 := HLT.out; have h3 := HK8.out; (first | rw [hkw] | skip); simp [intOf]; omega
    · obtain rfl : k = l.length := by omega
      have t2 : decide ((l.length : Int) < l.length) = false := by simp
      have HQE := Lib.hid hq
      have HOE := Lib.hid (bos_row (okL_len l l.length) HO.out)
      have c0 := hC.c 0 rfl
      have c1 := hC.c 1 rfl
      have cz := hC.2.2
      have r0 := HRW.out.c 0 rfl
      have r1 := HRW.out.c 1 rfl
      have p0 := HRW.out.f 0 (by simp)
      have p1 := HRW.out.f 1 (by simp)
      have rz := HRW.out.2.2
      have HBE := Lib.hid HWI.out
      have HSE := Lib.hid HSZ.out
      have HGE := Lib.hid (show b ≠ w.heap.size from HGB.out)
      go_wp2_with fail
      have HST2 := Lib.hid (store2 (y0 := .int .i64 (stT l l.length).1) HRW.out HQE.out HGE.out HOE.out (fun b' o' m d e => by
        have h1 := row_own HO.out (k := b') (by rw [e]; rfl)
        have h2 := HZ.out
        omega) HBE.out)
      refine (fun (h : ∀ W : World, Cs W w.heap.size #[.int .i64 (stT l l.length).1, .slice (some ⟨b, off, none⟩) 16 c] → BosAt W (.slice (some ⟨b, off, none⟩) 16 c) (stT l l.length).2 → BosAt W (.slice oa l.length oc) (okL l l.length) → Below w.heap.size w W → bodyPost Try.prog Try.f30 _ Exit.ret _ W) => h _ HST2.out.1 HST2.out.2.1 HST2.out.2.2.1 HST2.out.2.2.2) ?_
      intro W hC hO hP hB
      have k0 : W.cell? ⟨w.heap.size, 0, none⟩ = some (.int .i64 (stT l l.length).1) := hC.c 0 rfl
      have k1 : W.cell? ⟨w.heap.size, 1, none⟩ = some (.slice (some ⟨b, off, none⟩) 16 c) := hC.c 1 rfl
      exact bodyPost_ret (v := .tuple #[.agg #[.int .i64 (stT l l.length).1, .slice (some ⟨b, off, none⟩) 16 c], .slice oa l.length oc]) (by simp [results, Try.results30, go_sem, k0, k1]) rfl ⟨b, off, c, _, rfl, hO, hP, hB⟩
end Go.Proofs.Ytebeaekiaikgmaa
