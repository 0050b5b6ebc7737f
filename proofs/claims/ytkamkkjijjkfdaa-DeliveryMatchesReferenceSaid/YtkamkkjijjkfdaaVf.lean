/- The window: 'Accept'. -/
import Derived.Test.YtkamkkjijjkfdaaVe
import Derived.Deep.RegionLaw
import Derived.Deep.CutRange
namespace Go.Proofs.Ytkamkkjijjkfdaa
open Go.RowKit

theorem row_base0 {w : World} {base b2 e s : Nat} {v : Value} {n : Nat} {xs : List Value} (h : w.ownsRow base e s v n xs) (hb : b2 ≤ base) : w.ownsRow b2 e s v n xs := by
  refine ⟨h.1, ?_⟩
  rcases h.2 with h0 | ⟨g, cap, cur, h1, h2, h3, h4⟩
  · exact .inl h0
  · exact .inr ⟨g, cap, cur, h1, Nat.le_trans hb h2, h3, h4⟩
theorem row_lt0 {w : World} {base e s n c m g : Nat} {a : Option Addr} {xs : List Value} (h : w.ownsRow base e s (.slice a n c) m xs) (ha : a = some ⟨g, 0, none⟩) : base ≤ g ∧ g < w.heap.size := by
  subst ha
  rcases h.2 with ⟨e, -⟩ | ⟨g', cp, cur, e, h1, h2, -⟩
  · cases e
  · obtain ⟨rfl, -, -⟩ : g = g' ∧ n = m ∧ c = cp := by simpa using e
    exact ⟨h1, (Array.getElem?_eq_some_iff.1 h2).1⟩
theorem bos_other {w : World} {g n c b : Nat} {l : List Bool} (h : BosAt w (.slice (some ⟨g, 0, none⟩) n c) l) (hne : g ≠ b) (j : Nat) (v : Value) : BosAt (w.setCell ⟨b, j, none⟩ v) (.slice (some ⟨g, 0, none⟩) n c) l := by
  obtain ⟨a, cap, hv, hm, hc⟩ := h
  refine ⟨a, cap, hv, hm, fun hl => ?_⟩
  obtain ⟨b1, off, ha, hx⟩ := hc hl
  have hg : some (⟨g, 0, none⟩ : Addr) = a := by simp at hv; exact hv.1
  obtain rfl : b1 = g := by rw [ha] at hg; simp at hg; exact hg.1.symm
  exact ⟨b1, off, ha, fun i x h => (World.cell?_of_block (a := ⟨b1, off + i, none⟩) (Below.heap_setCell w ⟨b, j, none⟩ v b1 hne)).trans (hx i x h)⟩
/-- A copy of the window in a block of its own. -/
def AcS (wq : World) (t : Int) (L : List Bool) (p : Value) (wc : World) : Prop :=
  ∃ (n uc : Nat) (ua : Option Addr), p = .pointer (some ⟨n, 0, none⟩) ∧ wq.heap.size ≤ n ∧ (∀ g, ua = some ⟨g, 0, none⟩ → g ≠ n) ∧ Cs wc n #[.int .i64 t, .slice ua 16 uc] ∧ wc.ownsRow wq.heap.size 4 1 (.slice ua 16 uc) 16 (L.map Value.bool) ∧ Below wq.heap.size wq wc
theorem AcS.after {wq w3 : World} {t : Int} {L : List Bool} {B uc : Nat} {ua : Option Addr} (h : Below wq.heap.size wq w3) (hu : w3.ownsRow B 4 1 (.slice ua 16 uc) 16 (L.map Value.bool)) (hB : wq.heap.size ≤ B) :
    AcS wq t L (.pointer (some ⟨w3.heap.size, 0, none⟩)) (w3.alloc (.cells #[.int .i64 t, .slice ua 16 uc] 27)) :=
  ⟨_, uc, ua, rfl, h.size, fun g hg => (by have := (row_lt0 hu hg).2; omega), Cs.new w3 _ _ 27 rfl, row_step (row_base0 hu hB) (al _ _), h.alloc h.size _⟩
theorem AcS.before {wq w3 : World} {t : Int} {L : List Bool} {B uc : Nat} {ua : Option Addr} (h : Below wq.heap.size wq w3) (hu : w3.ownsRow B 4 1 (.slice ua 16 uc) 16 (L.map Value.bool)) (hB : wq.heap.size < B) (hc : Cs w3 wq.heap.size #[.int .i64 0, .slice none 0 0]) :
    AcS wq t L (.pointer (some ⟨wq.heap.size, 0, none⟩)) ((w3.setCell ⟨wq.heap.size, 0, none⟩ (.int .i64 t)).setCell ⟨wq.heap.size, 1, none⟩ (.slice ua 16 uc)) :=
  ⟨_, uc, ua, rfl, Nat.le_refl _, fun g hg => (by have := (row_lt0 hu hg).1; omega), Cs.set (Cs.set hc 0 (by simp) (.int .i64 t) rfl) 1 (by simp) (.slice ua 16 uc) rfl, row_base0 (ownsRow_setCell_below (ownsRow_setCell_below hu (a := ⟨wq.heap.size, 0, none⟩) hB _) (a := ⟨wq.heap.size, 1, none⟩) hB _) (Nat.le_of_lt hB), (h.setCell (p := ⟨wq.heap.size, 0, none⟩) (Nat.le_refl _) _).setCell (p := ⟨wq.heap.size, 1, none⟩) (Nat.le_refl _) _⟩
set_option maxRecDepth 100000 in
set_option maxHeartbeats 4000000 in
/-- A number behind the window's top. -/
theorem accept_new (v : Value) (seq : Nat) (w : World) (h : BosAt w v (List.replicate 16 false)) (hs : seq ≤ 1000000) :
    Calls Try.prog 51 #[.agg #[.int .i64 (-1), v], .int .i64 seq] w fun e w' => ∃ g, e = .returned (.tuple #[.agg #[.int .i64 seq, .slice (some ⟨g, 0, none⟩) 16 16], .int .i64 0]) ∧ w.heap.size ≤ g ∧ BosAt w' (.slice (some ⟨g, 0, none⟩) 16 16) (shL (List.replicate 16 false) (seq + 1)) ∧ Below w.heap.size w w' := by
  obtain ⟨a, cap, rfl, hm, hc⟩ := (show BosAt w v (List.replicate 16 false) from h)
  rw [List.length_replicate] at *
  clear hm hc
  have HS := Lib.hid hs
  have HC0 := Lib.hid ((Cs.new w w.heap.size #[.int .i64 (-1), .slice a 16 cap] 27 rfl).alloc (.cells #[.int .i64 0, .slice none 0 0] 27))
  have HR0 := Lib.hid (Cs.new (w.alloc (.cells #[.int .i64 (-1), .slice a 16 cap] 27)) (w.heap.size + 1) #[.int .i64 0, .slice none 0 0] 27 (by simp))
  have HB0 := Lib.hid (al2 (w := w) (o1 := .cells #[.int .i64 (-1), .slice a 16 cap] 27) (o2 := .cells #[.int .i64 0, .slice none 0 0] 27))
  have HL0 := Lib.hid (h.step HB0.out)
  clear h hs
  go_enter Try.func51, Try.ntmps51
  go_upto_region 1 with fail
  generalize ((w.alloc (.cells #[.int .i64 (-1), .slice a 16 cap] 27)).alloc (.cells #[.int .i64 0, .slice none 0 0] 27)) = wq at *
  go_cut [6] from 8 to 14 (fun p wc => AcS wq (-1) (List.replicate 16 false) p wc)
  case first =>
    have c0 : wq.cell? ⟨w.heap.size, 0, none⟩ = some (.int .i64 (-1)) := HC0.out.c 0 rfl
    have c1 : wq.cell? ⟨w.heap.size, 1, none⟩ = some (.slice a 16 cap) := HC0.out.c 1 rfl
    have d0 : (wq.alloc (.cells #[.int .i64 0, .slice none 0 0] 27)).cell? ⟨w.heap.size, 0, none⟩ = some (.int .i64 (-1)) := (HC0.out.alloc _).c 0 rfl
    have d1 : (wq.alloc (.cells #[.int .i64 0, .slice none 0 0] 27)).cell? ⟨w.heap.size, 1, none⟩ = some (.slice a 16 cap) := (HC0.out.alloc _).c 1 rfl
    go_region_law (go_simp; go_at_call 49; refine (bo_clone (.slice a 16 cap) (List.replicate 16 false) _ (HL0.out.step (by first | exact below_drew _ _ | exact (al _ _).trans (below_drew _ _))) (by simp)).mono ?_; rintro e w3 ⟨u, rfl, hu, b3⟩; obtain ⟨ua, uc, rfl⟩ := row_slice hu; have HU := Lib.hid hu; have B3 := Lib.hid b3; have HW3 := Lib.hid (show Below wq.heap.size wq w3 from by first | exact (below_drew _ _).trans b3 | exact keep2 b3 ((al wq _).trans (below_drew _ _))); have m0 : w3.cell? ⟨w.heap.size, 0, none⟩ = some (.int .i64 (-1)) := (HC0.out.step HW3.out).c 0 rfl; have m1 : w3.cell? ⟨w.heap.size, 1, none⟩ = some (.slice a 16 cap) := (HC0.out.step HW3.out).c 1 rfl; have n0 : (w3.alloc (.cells #[.int .i64 0, .slice none 0 0] 27)).cell? ⟨w.heap.size, 0, none⟩ = some (.int .i64 (-1)) := ((HC0.out.step HW3.out).alloc _).c 0 rfl; have n1 : (w3.alloc (.cells #[.int .i64 0, .slice none 0 0] 27)).cell? ⟨w.heap.size, 1, none⟩ = some (.slice a 16 cap) := ((HC0.out.step HW3.out).alloc _).c 1 rfl; (first | (have HQB := Lib.hid (show wq.heap.size < (wq.alloc (.cells #[.int .i64 0, .slice none 0 0] 27)).drew.heap.size by simp); have HU2 := Lib.hid (show w3.ownsRow (wq.alloc (.cells #[.int .i64 0, .slice none 0 0] 27)).drew.heap.size 4 1 (.slice ua 16 uc) 16 ((List.replicate 16 false).map Value.bool) from hu); have HQ3 := Lib.hid (show Cs w3 wq.heap.size #[.int .i64 0, .slice none 0 0] from ((Cs.new wq wq.heap.size #[.int .i64 0, .slice none 0 0] 27 rfl).step (below_drew _ _)).step b3); have q0 : w3.cell? ⟨wq.heap.size, 0, none⟩ = some (.int .i64 0) := (((Cs.new wq wq.heap.size #[.int .i64 0, .slice none 0 0] 27 rfl).step (below_drew _ _)).step b3).c 0 rfl; have q1 : w3.cell? ⟨wq.heap.size, 1, none⟩ = some (.slice none 0 0) := (((Cs.new wq wq.heap.size #[.int .i64 0, .slice none 0 0] 27 rfl).step (below_drew _ _)).step b3).c 1 rfl; have g0 := (((Cs.new wq wq.heap.size #[.int .i64 0, .slice none 0 0] 27 rfl).step (below_drew _ _)).step b3).f 0 (by simp); have g1 := (((Cs.new wq wq.heap.size #[.int .i64 0, .slice none 0 0] 27 rfl).step (below_drew _ _)).step b3).f 1 (by simp)) | (have HQA := Lib.hid (show wq.heap.size ≤ wq.drew.heap.size from Nat.le_refl _))); clear hu b3)
    all_goals go_wp2
    all_goals go_meet
    all_goals first | with_reducible exact AcS.after HW3.out HU.out HQA.out | with_reducible exact AcS.before HW3.out HU2.out HQB.out HQ3.out
  case rest =>
    obtain ⟨n, uc, ua, rfl, hn, -, hcs, -, hb⟩ := hcut
    have HC1 := Lib.hid (HC0.out.step hb)
    have HR1 := Lib.hid (HR0.out.step hb)
    have HB1 := Lib.hid (keep2 hb HB0.out)
    have HL1 := Lib.hid (HL0.out.step hb)
    have HN := Lib.hid hcs
    clear hcs hb hn HC0 HR0 HL0 HB0
    have c0 : wc.cell? ⟨w.heap.size, 0, none⟩ = some (.int .i64 (-1)) := HC1.out.c 0 rfl
    have c1 : wc.cell? ⟨w.heap.size, 1, none⟩ = some (.slice a 16 cap) := HC1.out.c 1 rfl
    go_wp2_with fail
    refine (isw_new _ _ HL1.out).mono ?_
    rintro e w4 ⟨rfl, b4⟩
    have HC4 := Lib.hid (HC1.out.step b4)
    have HR4 := Lib.hid (HR1.out.step b4)
    have HB4 := Lib.hid (keep2 b4 HB1.out)
    have HL4 := Lib.hid (HL1.out.step b4)
    clear b4 c0 c1 HC1 HR1 HB1 HL1
    have c0 : w4.cell? ⟨w.heap.size, 0, none⟩ = some (.int .i64 (-1)) := HC4.out.c 0 rfl
    have c1 : w4.cell? ⟨w.heap.size, 1, none⟩ = some (.slice a 16 cap) := HC4.out.c 1 rfl
    have d0 : decide ((seq : Int) < 0) = false := by simp
    have d1 : decide (1000000 < (seq : Int)) = false := by have := HS.out; simp; omega
    have d2 : decide (-1 < (seq : Int)) = true := by simp; omega
    have hw : wrap64 ((seq : Int) - (-1)) = ((seq + 1 : Nat) : Int) := by rw [IntWalk.wrap64_in _ (by have := HS.out; omega)]; omega
    have hw2 : wrap64 ((seq : Int) + 1) = ((seq + 1 : Nat) : Int) := by rw [IntWalk.wrap64_in _ (by have := HS.out; omega)]; omega
    go_wp2_with fail
    refine (shifted_any (-1) a cap (List.replicate 16 false) (seq + 1) _ HL4.out (by simp) (by omega) (by have := HS.out; omega)).mono ?_
    rintro e w5 ⟨rfl, b5⟩
    have HR5 := Lib.hid (HR4.out.step b5)
    have HB5 := Lib.hid (keep2 b5 HB4.out)
    clear b5 c0 c1 HC4 HR4 HB4 HL4
    have hw0 : shA (List.replicate 16 false) (seq + 1) 16 = #[.bool (shv (List.replicate 16 false) (seq + 1) 16 0), .bool (shv (List.replicate 16 false) (seq + 1) 16 1), .bool (shv (List.replicate 16 false) (seq + 1) 16 2), .bool (shv (List.replicate 16 false) (seq + 1) 16 3), .bool (shv (List.replicate 16 false) (seq + 1) 16 4), .bool (shv (List.replicate 16 false) (seq + 1) 16 5), .bool (shv (List.replicate 16 false) (seq + 1) 16 6), .bool (shv (List.replicate 16 false) (seq + 1) 16 7), .bool (shv (List.replicate 16 false) (seq + 1) 16 8), .bool (shv (List.replicate 16 false) (seq + 1) 16 9), .bool (shv (List.replicate 16 false) (seq + 1) 16 10), .bool (shv (List.replicate 16 false) (seq + 1) 16 11), .bool (shv (List.replicate 16 false) (seq + 1) 16 12), .bool (shv (List.replicate 16 false) (seq + 1) 16 13), .bool (shv (List.replicate 16 false) (seq + 1) 16 14), .bool (shv (List.replicate 16 false) (seq + 1) 16 15)] := rfl
    have hl0 : shL (List.replicate 16 false) (seq + 1) = [shv (List.replicate 16 false) (seq + 1) 16 0, shv (List.replicate 16 false) (seq + 1) 16 1, shv (List.replicate 16 false) (seq + 1) 16 2, shv (List.replicate 16 false) (seq + 1) 16 3, shv (List.replicate 16 false) (seq + 1) 16 4, shv (List.replicate 16 false) (seq + 1) 16 5, shv (List.replicate 16 false) (seq + 1) 16 6, shv (List.replicate 16 false) (seq + 1) 16 7, shv (List.replicate 16 false) (seq + 1) 16 8, shv (List.replicate 16 false) (seq + 1) 16 9, shv (List.replicate 16 false) (seq + 1) 16 10, shv (List.replicate 16 false) (seq + 1) 16 11, shv (List.replicate 16 false) (seq + 1) 16 12, shv (List.replicate 16 false) (seq + 1) 16 13, shv (List.replicate 16 false) (seq + 1) 16 14, shv (List.replicate 16 false) (seq + 1) 16 15] := rfl
    obtain ⟨e0, e1, e2, e3, e4, e5, e6, e7, e8, e9, e10, e11, e12, e13, e14, e15, hes, hle⟩ : ∃ e0 e1 e2 e3 e4 e5 e6 e7 e8 e9 e10 e11 e12 e13 e14 e15, shA (List.replicate 16 false) (seq + 1) 16 = #[.bool e0, .bool e1, .bool e2, .bool e3, .bool e4, .bool e5, .bool e6, .bool e7, .bool e8, .bool e9, .bool e10, .bool e11, .bool e12, .bool e13, .bool e14, .bool e15] ∧ shL (List.replicate 16 false) (seq + 1) = [e0, e1, e2, e3, e4, e5, e6, e7, e8, e9, e10, e11, e12, e13, e14, e15] := ⟨_, _, _, _, _, _, _, _, _, _, _, _, _, _, _, _, hw0, hl0⟩
    have HLE := Lib.hid hle
    rw [hes]
    clear hw0 hl0 hes hle
    have HBO := Lib.hid (bos_lit w5 [e0, e1, e2, e3, e4, e5, e6, e7, e8, e9, e10, e11, e12, e13, e14, e15] #[.bool e0, .bool e1, .bool e2, .bool e3, .bool e4, .bool e5, .bool e6, .bool e7, .bool e8, .bool e9, .bool e10, .bool e11, .bool e12, .bool e13, .bool e14, .bool e15] 88 rfl (by simp) 16 rfl w5.heap.size rfl)
    have HR6 := Lib.hid (HR5.out.alloc (.cells #[.bool e0, .bool e1, .bool e2, .bool e3, .bool e4, .bool e5, .bool e6, .bool e7, .bool e8, .bool e9, .bool e10, .bool e11, .bool e12, .bool e13, .bool e14, .bool e15] 88))
    have HB6 := Lib.hid (HB5.out.alloc HB5.out.size (.cells #[.bool e0, .bool e1, .bool e2, .bool e3, .bool e4, .bool e5, .bool e6, .bool e7, .bool e8, .bool e9, .bool e10, .bool e11, .bool e12, .bool e13, .bool e14, .bool e15] 88))
    have r0 : (w5.alloc (.cells #[.bool e0, .bool e1, .bool e2, .bool e3, .bool e4, .bool e5, .bool e6, .bool e7, .bool e8, .bool e9, .bool e10, .bool e11, .bool e12, .bool e13, .bool e14, .bool e15] 88)).cell? ⟨w.heap.size + 1, 0, none⟩ = some (.int .i64 0) := HR6.out.c 0 rfl
    have r1 : (w5.alloc (.cells #[.bool e0, .bool e1, .bool e2, .bool e3, .bool e4, .bool e5, .bool e6, .bool e7, .bool e8, .bool e9, .bool e10, .bool e11, .bool e12, .bool e13, .bool e14, .bool e15] 88)).cell? ⟨w.heap.size + 1, 1, none⟩ = some (.slice none 0 0) := HR6.out.c 1 rfl
    have f0 := HR6.out.f 0 (by simp)
    have f1 := HR6.out.f 1 (by simp)
    have HLT := Lib.hid (show w.heap.size + 1 < w5.heap.size from HR5.out.2.2)
    go_wp2_with fail
    have hne : w5.heap.size ≠ w.heap.size + 1 := by have := HLT.out; omega
    refine (fun (h : ∀ W : World, Cs W (w.heap.size + 1) #[.int .i64 seq, (.slice (some ⟨w5.heap.size, 0, none⟩) 16 16)] → BosAt W (.slice (some ⟨w5.heap.size, 0, none⟩) 16 16) [e0, e1, e2, e3, e4, e5, e6, e7, e8, e9, e10, e11, e12, e13, e14, e15] → Below w.heap.size w W → bodyPost Try.prog Try.f51 _ Exit.ret _ W) => h _ (Cs.set (Cs.set HR6.out 0 (by simp) (.int .i64 seq) rfl) 1 (by simp) (.slice (some ⟨w5.heap.size, 0, none⟩) 16 16) (vs' := #[.int .i64 seq, (.slice (some ⟨w5.heap.size, 0, none⟩) 16 16)]) rfl) (bos_other (bos_other HBO.out hne 0 _) hne 1 _) ((HB6.out.setCell (p := ⟨w.heap.size + 1, 0, none⟩) (Nat.le_succ _) _).setCell (p := ⟨w.heap.size + 1, 1, none⟩) (Nat.le_succ _) _)) ?_
    intro W hC hO hB
    have k0 : W.cell? ⟨w.heap.size + 1, 0, none⟩ = some (.int .i64 seq) := hC.c 0 rfl
    have k1 : W.cell? ⟨w.heap.size + 1, 1, none⟩ = some (.slice (some ⟨w5.heap.size, 0, none⟩) 16 16) := hC.c 1 rfl
    exact bodyPost_ret (v := .tuple #[.agg #[.int .i64 seq, (.slice (some ⟨w5.heap.size, 0, none⟩) 16 16)], .int .i64 0]) (by simp [results, Try.results51, go_sem, k0, k1]) rfl ⟨_, rfl, by have := HLT.out; omega, by rw [HLE.out]; exact hO, hB⟩
end Go.Proofs.Ytkamkkjijjkfdaa
