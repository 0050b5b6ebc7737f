import Derived.Test.YtnanndmpbecdiaaYd
namespace Go.Proofs.Ytnanndmpbecdiaa
open Go.RowKit

set_option maxRecDepth 100000 in
set_option maxHeartbeats 8000000 in
theorem acf_shift (t : Int) (a : Option Addr) (c : Nat) (L : List Bool) (seq : Int) (w : World) (h : BosAt w (.slice a 16 c) L) (hn : L.length = 16) (hi : IsW t a 16 c L true) (hs : 0 ≤ seq ∧ seq ≤ 1000000 ∧ -1 ≤ t) (d : Nat) (hd : seq - t = d ∧ 0 < d) : Calls Try.prog 34 #[.agg #[.int .i64 t, .slice a 16 c], .int .i64 seq] w (AcF w seq (shL L d) 0) := by
  have h9 : 16 ≤ 100000 := by omega
  have HQ := Lib.hid hn
  have H9 := Lib.hid h9
  replace hi := Lib.hid hi
  replace hs := Lib.hid hs
  replace hd := Lib.hid hd
  have HC0 := Lib.hid ((Cs.new w w.heap.size #[.int .i64 t, .slice a 16 c] 28 rfl).alloc (.cells #[.int .i64 0, .slice none 0 0] 28))
  have HR0 := Lib.hid (Cs.new (w.alloc (.cells #[.int .i64 t, .slice a 16 c] 28)) (w.heap.size + 1) #[.int .i64 0, .slice none 0 0] 28 (by simp))
  have HB0 := Lib.hid (al2 (w := w) (o1 := .cells #[.int .i64 t, .slice a 16 c] 28) (o2 := .cells #[.int .i64 0, .slice none 0 0] 28))
  have HL0 := Lib.hid (h.step HB0.out)
  clear h hn h9
  go_enter Try.func34, Try.ntmps34
  go_upto_region 1 with fail
  generalize ((w.alloc (.cells #[.int .i64 t, .slice a 16 c] 28)).alloc (.cells #[.int .i64 0, .slice none 0 0] 28)) = wq at *
  go_cut [6] from 8 to 14 (fun p wc => AcG wq t 16 L p wc)
  case first =>
    have c0 : wq.cell? ⟨w.heap.size, 0, none⟩ = some (.int .i64 t) := HC0.out.c 0 rfl
    have c1 : wq.cell? ⟨w.heap.size, 1, none⟩ = some (.slice a 16 c) := HC0.out.c 1 rfl
    have d0 : (wq.alloc (.cells #[.int .i64 0, .slice none 0 0] 28)).cell? ⟨w.heap.size, 0, none⟩ = some (.int .i64 t) := (HC0.out.alloc _).c 0 rfl
    have d1 : (wq.alloc (.cells #[.int .i64 0, .slice none 0 0] 28)).cell? ⟨w.heap.size, 1, none⟩ = some (.slice a 16 c) := (HC0.out.alloc _).c 1 rfl
    go_region_law (go_simp; go_at_call 31; refine (bo_clone (.slice a 16 c) L _ (HL0.out.step (by first | exact below_drew _ _ | exact (al _ _).trans (below_drew _ _))) (by rw [HQ.out]; exact H9.out)).mono ?_; rintro e w3 ⟨u, rfl, hu, b3⟩; rw [HQ.out] at hu; obtain ⟨ua, uc, rfl⟩ := row_slice hu; have HU := Lib.hid hu; have B3 := Lib.hid b3; have HW3 := Lib.hid (show Below wq.heap.size wq w3 from by first | exact (below_drew _ _).trans b3 | exact keep2 b3 ((al wq _).trans (below_drew _ _))); have m0 : w3.cell? ⟨w.heap.size, 0, none⟩ = some (.int .i64 t) := (HC0.out.step HW3.out).c 0 rfl; have m1 : w3.cell? ⟨w.heap.size, 1, none⟩ = some (.slice a 16 c) := (HC0.out.step HW3.out).c 1 rfl; have n0 : (w3.alloc (.cells #[.int .i64 0, .slice none 0 0] 28)).cell? ⟨w.heap.size, 0, none⟩ = some (.int .i64 t) := ((HC0.out.step HW3.out).alloc _).c 0 rfl; have n1 : (w3.alloc (.cells #[.int .i64 0, .slice none 0 0] 28)).cell? ⟨w.heap.size, 1, none⟩ = some (.slice a 16 c) := ((HC0.out.step HW3.out).alloc _).c 1 rfl; (first | (have HQB := Lib.hid (show wq.heap.size < (wq.alloc (.cells #[.int .i64 0, .slice none 0 0] 28)).drew.heap.size by simp); have HU2 := Lib.hid (show w3.ownsRow (wq.alloc (.cells #[.int .i64 0, .slice none 0 0] 28)).drew.heap.size 4 1 (.slice ua 16 uc) 16 (L.map Value.bool) from hu); have HQ3 := Lib.hid (show Cs w3 wq.heap.size #[.int .i64 0, .slice none 0 0] from ((Cs.new wq wq.heap.size #[.int .i64 0, .slice none 0 0] 28 rfl).step (below_drew _ _)).step b3); have q0 : w3.cell? ⟨wq.heap.size, 0, none⟩ = some (.int .i64 0) := (((Cs.new wq wq.heap.size #[.int .i64 0, .slice none 0 0] 28 rfl).step (below_drew _ _)).step b3).c 0 rfl; have q1 : w3.cell? ⟨wq.heap.size, 1, none⟩ = some (.slice none 0 0) := (((Cs.new wq wq.heap.size #[.int .i64 0, .slice none 0 0] 28 rfl).step (below_drew _ _)).step b3).c 1 rfl; have g0 := (((Cs.new wq wq.heap.size #[.int .i64 0, .slice none 0 0] 28 rfl).step (below_drew _ _)).step b3).f 0 (by simp); have g1 := (((Cs.new wq wq.heap.size #[.int .i64 0, .slice none 0 0] 28 rfl).step (below_drew _ _)).step b3).f 1 (by simp)) | (have HQA := Lib.hid (show wq.heap.size ≤ wq.drew.heap.size from Nat.le_refl _))); clear hu b3)
    all_goals go_wp2
    all_goals go_meet
    all_goals first | with_reducible exact AcG.after HW3.out HU.out HQA.out | with_reducible exact AcG.before HW3.out HU2.out HQB.out HQ3.out
  case rest =>
    obtain ⟨g, uc, ua, rfl, hg, hne, hcs, hrow, hb⟩ := hcut
    have HNE := Lib.hid hne
    clear hne
    have HC1 := Lib.hid (HC0.out.step hb)
    have HR1 := Lib.hid (HR0.out.step hb)
    have HB1 := Lib.hid (keep2 hb HB0.out)
    have HL1 := Lib.hid (HL0.out.step hb)
    have HN1 := Lib.hid hcs
    have HO1 := Lib.hid hrow
    have HZ := Lib.hid (show w.heap.size + 1 < wq.heap.size from HR0.out.2.2)
    have HNN := Lib.hid hg
    clear hcs hb hrow hg HC0 HR0 HL0 HB0
    have c0 : wc.cell? ⟨w.heap.size, 0, none⟩ = some (.int .i64 t) := HC1.out.c 0 rfl
    have c1 : wc.cell? ⟨w.heap.size, 1, none⟩ = some (.slice a 16 c) := HC1.out.c 1 rfl
    go_wp2_with fail
    refine (hi.out _ HL1.out).mono ?_
    rintro e w4 ⟨rfl, b4⟩
    have HC4 := Lib.hid (HC1.out.step b4)
    have HR4 := Lib.hid (HR1.out.step b4)
    have HB4 := Lib.hid (keep2 b4 HB1.out)
    have HL4 := Lib.hid (HL1.out.step b4)
    have HN4 := Lib.hid (HN1.out.step b4)
    have HO4 := Lib.hid (row_step HO1.out b4)
    clear b4 c0 c1 HC1 HR1 HB1 HL1 HN1 HO1
    have c0 : w4.cell? ⟨w.heap.size, 0, none⟩ = some (.int .i64 t) := HC4.out.c 0 rfl
    have c1 : w4.cell? ⟨w.heap.size, 1, none⟩ = some (.slice a 16 c) := HC4.out.c 1 rfl
    have d0 : decide (seq < 0) = false := by have := hs.out; simp; omega
    have d1 : decide (1000000 < seq) = false := by have := hs.out; simp; omega
    have d2 : decide (t < seq) = true := by have := hd.out; simp; omega
    have d2b : decide (seq > t) = true := by have := hd.out; simp; omega
    have hw : wrap64 (seq - t) = (d : Int) := by rw [IntWalk.wrap64_in _ (by have := hs.out; have := hd.out; omega)]; exact hd.out.1
    go_wp2_with fail
    refine (shifted_any t a c L d _ HL4.out HQ.out (by have := hd.out; omega) (by have := hs.out; have := hd.out; omega)).mono ?_
    rintro e w5 ⟨rfl, b5⟩
    have HR5 := Lib.hid (HR4.out.step b5)
    have HB5 := Lib.hid (keep2 b5 HB4.out)
    clear b5 c0 c1 HC4 HR4 HB4 HL4 HN4 HO4
    have hw0 : shA L d 16 = #[.bool (shv L d 16 0), .bool (shv L d 16 1), .bool (shv L d 16 2), .bool (shv L d 16 3), .bool (shv L d 16 4), .bool (shv L d 16 5), .bool (shv L d 16 6), .bool (shv L d 16 7), .bool (shv L d 16 8), .bool (shv L d 16 9), .bool (shv L d 16 10), .bool (shv L d 16 11), .bool (shv L d 16 12), .bool (shv L d 16 13), .bool (shv L d 16 14), .bool (shv L d 16 15)] := rfl
    have hl0 : shL L d = [shv L d 16 0, shv L d 16 1, shv L d 16 2, shv L d 16 3, shv L d 16 4, shv L d 16 5, shv L d 16 6, shv L d 16 7, shv L d 16 8, shv L d 16 9, shv L d 16 10, shv L d 16 11, shv L d 16 12, shv L d 16 13, shv L d 16 14, shv L d 16 15] := rfl
    obtain ⟨e0, e1, e2, e3, e4, e5, e6, e7, e8, e9, e10, e11, e12, e13, e14, e15, hes, hle⟩ : ∃ e0 e1 e2 e3 e4 e5 e6 e7 e8 e9 e10 e11 e12 e13 e14 e15, shA L d 16 = #[.bool e0, .bool e1, .bool e2, .bool e3, .bool e4, .bool e5, .bool e6, .bool e7, .bool e8, .bool e9, .bool e10, .bool e11, .bool e12, .bool e13, .bool e14, .bool e15] ∧ shL L d = [e0, e1, e2, e3, e4, e5, e6, e7, e8, e9, e10, e11, e12, e13, e14, e15] := ⟨_, _, _, _, _, _, _, _, _, _, _, _, _, _, _, _, hw0, hl0⟩
    have HLE := Lib.hid hle
    rw [hes]
    clear hw0 hl0 hes hle
    have HBO := Lib.hid (bos_lit w5 [e0, e1, e2, e3, e4, e5, e6, e7, e8, e9, e10, e11, e12, e13, e14, e15] #[.bool e0, .bool e1, .bool e2, .bool e3, .bool e4, .bool e5, .bool e6, .bool e7, .bool e8, .bool e9, .bool e10, .bool e11, .bool e12, .bool e13, .bool e14, .bool e15] 93 rfl (by simp) 16 rfl w5.heap.size rfl)
    have HR6 := Lib.hid (HR5.out.alloc (.cells #[.bool e0, .bool e1, .bool e2, .bool e3, .bool e4, .bool e5, .bool e6, .bool e7, .bool e8, .bool e9, .bool e10, .bool e11, .bool e12, .bool e13, .bool e14, .bool e15] 93))
    have HB6 := Lib.hid (HB5.out.alloc HB5.out.size (.cells #[.bool e0, .bool e1, .bool e2, .bool e3, .bool e4, .bool e5, .bool e6, .bool e7, .bool e8, .bool e9, .bool e10, .bool e11, .bool e12, .bool e13, .bool e14, .bool e15] 93))
    have r0 : (w5.alloc (.cells #[.bool e0, .bool e1, .bool e2, .bool e3, .bool e4, .bool e5, .bool e6, .bool e7, .bool e8, .bool e9, .bool e10, .bool e11, .bool e12, .bool e13, .bool e14, .bool e15] 93)).cell? ⟨w.heap.size + 1, 0, none⟩ = some (.int .i64 0) := HR6.out.c 0 rfl
    have r1 : (w5.alloc (.cells #[.bool e0, .bool e1, .bool e2, .bool e3, .bool e4, .bool e5, .bool e6, .bool e7, .bool e8, .bool e9, .bool e10, .bool e11, .bool e12, .bool e13, .bool e14, .bool e15] 93)).cell? ⟨w.heap.size + 1, 1, none⟩ = some (.slice none 0 0) := HR6.out.c 1 rfl
    have f0 := HR6.out.f 0 (by simp)
    have f1 := HR6.out.f 1 (by simp)
    have HLT := Lib.hid (show w.heap.size + 1 < w5.heap.size from HR5.out.2.2)
    go_wp2_with fail
    have hne : w5.heap.size ≠ w.heap.size + 1 := by have := HLT.out; omega
    refine (fun (h : ∀ W : World, Cs W (w.heap.size + 1) #[.int .i64 seq, (.slice (some ⟨w5.heap.size, 0, none⟩) 16 16)] → BosAt W (.slice (some ⟨w5.heap.size, 0, none⟩) 16 16) [e0, e1, e2, e3, e4, e5, e6, e7, e8, e9, e10, e11, e12, e13, e14, e15] → Below w.heap.size w W → bodyPost Try.prog Try.f34 _ Exit.ret _ W) => h _ (Cs.set (Cs.set HR6.out 0 (by simp) (.int .i64 seq) rfl) 1 (by simp) (.slice (some ⟨w5.heap.size, 0, none⟩) 16 16) (vs' := #[.int .i64 seq, (.slice (some ⟨w5.heap.size, 0, none⟩) 16 16)]) rfl) (bos_other (bos_other HBO.out hne 0 _) hne 1 _) ((HB6.out.setCell (p := ⟨w.heap.size + 1, 0, none⟩) (Nat.le_succ _) _).setCell (p := ⟨w.heap.size + 1, 1, none⟩) (Nat.le_succ _) _)) ?_
    intro W hC hO hB
    have k0 : W.cell? ⟨w.heap.size + 1, 0, none⟩ = some (.int .i64 seq) := hC.c 0 rfl
    have k1 : W.cell? ⟨w.heap.size + 1, 1, none⟩ = some (.slice (some ⟨w5.heap.size, 0, none⟩) 16 16) := hC.c 1 rfl
    exact bodyPost_ret (v := .tuple #[.agg #[.int .i64 seq, (.slice (some ⟨w5.heap.size, 0, none⟩) 16 16)], .int .i64 0]) (by simp [results, Try.results34, go_sem, k0, k1]) rfl (AcF.mk (by simp [shL]) (Nat.le_refl _) (by rw [HLE.out]; exact hO) hB (fun k o e => by cases e; have := HLT.out; omega))
end Go.Proofs.Ytnanndmpbecdiaa
