/- The window: 'Accept', a number in the window. -/
import Derived.Test.YtifnhfpdcbpjlaaVf
namespace Go.Proofs.Ytifnhfpdcbpjlaa
open Go.RowKit

set_option maxRecDepth 100000 in
set_option maxHeartbeats 4000000 in
/-- A number of the window that was not accepted yet. -/
theorem accept_old (t seq c : Nat) (a : Option Addr) (L : List Bool) (w : World) (h : BosAt w (.slice a 16 (c + 16)) L) (hl : L.length = 16) (hw : wkB t L = true) (ht : t ≤ 1000000) (h1 : seq ≤ t) (h2 : t - seq < 16) (h3 : L.getD (t - seq) false = false) :
    Calls Try.prog 36 #[.agg #[.int .i64 t, .slice a 16 (c + 16)], .int .i64 seq] w fun e w' => (∃ (aa : Option Addr) (cc : Nat), e = .returned (.tuple #[.agg #[.int .i64 t, .slice aa 16 cc], .int .i64 0])) ∧ Below w.heap.size w w' := by
  have HT := Lib.hid ht
  have HQ := Lib.hid hl
  have HK := Lib.hid hw
  have H1 := Lib.hid h1
  have H2 := Lib.hid h2
  have H3 := Lib.hid h3
  have HC0 := Lib.hid ((Cs.new w w.heap.size #[.int .i64 t, .slice a 16 (c + 16)] 41 rfl).alloc (.cells #[.int .i64 0, .slice none 0 0] 41))
  have HR0 := Lib.hid (Cs.new (w.alloc (.cells #[.int .i64 t, .slice a 16 (c + 16)] 41)) (w.heap.size + 1) #[.int .i64 0, .slice none 0 0] 41 (by simp))
  have HB0 := Lib.hid (al2 (w := w) (o1 := .cells #[.int .i64 t, .slice a 16 (c + 16)] 41) (o2 := .cells #[.int .i64 0, .slice none 0 0] 41))
  have HL0 := Lib.hid (h.step HB0.out)
  clear h hl hw ht h1 h2 h3
  go_enter Try.func36, Try.ntmps36
  go_upto_region 1 with fail
  generalize ((w.alloc (.cells #[.int .i64 t, .slice a 16 (c + 16)] 41)).alloc (.cells #[.int .i64 0, .slice none 0 0] 41)) = wq at *
  go_cut [6] from 8 to 14 (fun p wc => AcS wq t L p wc)
  case first =>
    have c0 : wq.cell? ⟨w.heap.size, 0, none⟩ = some (.int .i64 t) := HC0.out.c 0 rfl
    have c1 : wq.cell? ⟨w.heap.size, 1, none⟩ = some (.slice a 16 (c + 16)) := HC0.out.c 1 rfl
    have d0 : (wq.alloc (.cells #[.int .i64 0, .slice none 0 0] 41)).cell? ⟨w.heap.size, 0, none⟩ = some (.int .i64 t) := (HC0.out.alloc _).c 0 rfl
    have d1 : (wq.alloc (.cells #[.int .i64 0, .slice none 0 0] 41)).cell? ⟨w.heap.size, 1, none⟩ = some (.slice a 16 (c + 16)) := (HC0.out.alloc _).c 1 rfl
    go_region_law (go_simp; go_at_call 33; refine (bo_clone (.slice a 16 (c + 16)) L _ (HL0.out.step (by first | exact below_drew _ _ | exact (al _ _).trans (below_drew _ _))) (by rw [HQ.out]; decide)).mono ?_; rintro e w3 ⟨u, rfl, hu, b3⟩; rw [HQ.out] at hu; obtain ⟨ua, uc, rfl⟩ := row_slice hu; have HU := Lib.hid hu; have B3 := Lib.hid b3; have HW3 := Lib.hid (show Below wq.heap.size wq w3 from by first | exact (below_drew _ _).trans b3 | exact keep2 b3 ((al wq _).trans (below_drew _ _))); have m0 : w3.cell? ⟨w.heap.size, 0, none⟩ = some (.int .i64 t) := (HC0.out.step HW3.out).c 0 rfl; have m1 : w3.cell? ⟨w.heap.size, 1, none⟩ = some (.slice a 16 (c + 16)) := (HC0.out.step HW3.out).c 1 rfl; have n0 : (w3.alloc (.cells #[.int .i64 0, .slice none 0 0] 41)).cell? ⟨w.heap.size, 0, none⟩ = some (.int .i64 t) := ((HC0.out.step HW3.out).alloc _).c 0 rfl; have n1 : (w3.alloc (.cells #[.int .i64 0, .slice none 0 0] 41)).cell? ⟨w.heap.size, 1, none⟩ = some (.slice a 16 (c + 16)) := ((HC0.out.step HW3.out).alloc _).c 1 rfl; (first | (have HQB := Lib.hid (show wq.heap.size < (wq.alloc (.cells #[.int .i64 0, .slice none 0 0] 41)).drew.heap.size by simp); have HU2 := Lib.hid (show w3.ownsRow (wq.alloc (.cells #[.int .i64 0, .slice none 0 0] 41)).drew.heap.size 4 1 (.slice ua 16 uc) 16 (L.map Value.bool) from hu); have HQ3 := Lib.hid (show Cs w3 wq.heap.size #[.int .i64 0, .slice none 0 0] from ((Cs.new wq wq.heap.size #[.int .i64 0, .slice none 0 0] 41 rfl).step (below_drew _ _)).step b3); have q0 : w3.cell? ⟨wq.heap.size, 0, none⟩ = some (.int .i64 0) := (((Cs.new wq wq.heap.size #[.int .i64 0, .slice none 0 0] 41 rfl).step (below_drew _ _)).step b3).c 0 rfl; have q1 : w3.cell? ⟨wq.heap.size, 1, none⟩ = some (.slice none 0 0) := (((Cs.new wq wq.heap.size #[.int .i64 0, .slice none 0 0] 41 rfl).step (below_drew _ _)).step b3).c 1 rfl; have g0 := (((Cs.new wq wq.heap.size #[.int .i64 0, .slice none 0 0] 41 rfl).step (below_drew _ _)).step b3).f 0 (by simp); have g1 := (((Cs.new wq wq.heap.size #[.int .i64 0, .slice none 0 0] 41 rfl).step (below_drew _ _)).step b3).f 1 (by simp)) | (have HQA := Lib.hid (show wq.heap.size ≤ wq.drew.heap.size from Nat.le_refl _))); clear hu b3)
    all_goals go_wp2
    all_goals go_meet
    all_goals first | with_reducible exact AcS.after HW3.out HU.out HQA.out | with_reducible exact AcS.before HW3.out HU2.out HQB.out HQ3.out
  case rest =>
    obtain ⟨n, uc, ua, rfl, hn, hne, hcs, hrow, hb⟩ := hcut
    have HNE := Lib.hid hne
    clear hne
    have HC1 := Lib.hid (HC0.out.step hb)
    have HR1 := Lib.hid (HR0.out.step hb)
    have HB1 := Lib.hid (keep2 hb HB0.out)
    have HL1 := Lib.hid (HL0.out.step hb)
    have HN1 := Lib.hid hcs
    have HO1 := Lib.hid hrow
    have HZ := Lib.hid (show w.heap.size + 1 < wq.heap.size from HR0.out.2.2)
    have HNN := Lib.hid hn
    clear hcs hb hrow hn HC0 HR0 HL0 HB0
    have c0 : wc.cell? ⟨w.heap.size, 0, none⟩ = some (.int .i64 t) := HC1.out.c 0 rfl
    have c1 : wc.cell? ⟨w.heap.size, 1, none⟩ = some (.slice a 16 (c + 16)) := HC1.out.c 1 rfl
    go_wp2_with fail
    refine (isw_old t a c L _ HL1.out HQ.out HT.out).mono ?_
    rintro e w4 ⟨rfl, b4⟩
    rw [HK.out]
    have HC4 := Lib.hid (HC1.out.step b4)
    have HR4 := Lib.hid (HR1.out.step b4)
    have HB4 := Lib.hid (keep2 b4 HB1.out)
    have HL4 := Lib.hid (HL1.out.step b4)
    have HN4 := Lib.hid (HN1.out.step b4)
    have HO4 := Lib.hid (row_step HO1.out b4)
    clear b4 c0 c1 HC1 HR1 HB1 HL1 HN1 HO1
    have c0 : w4.cell? ⟨w.heap.size, 0, none⟩ = some (.int .i64 t) := HC4.out.c 0 rfl
    have c1 : w4.cell? ⟨w.heap.size, 1, none⟩ = some (.slice a 16 (c + 16)) := HC4.out.c 1 rfl
    have d0 : decide ((seq : Int) < 0) = false := by simp
    have d1 : decide (1000000 < (seq : Int)) = false := by have := HT.out; have := H1.out; simp; omega
    have d2 : decide ((t : Int) < (seq : Int)) = false := by have := H1.out; simp; omega
    have hw : wrap64 ((t : Int) - (seq : Int)) = ((t - seq : Nat) : Int) := by rw [IntWalk.wrap64_in _ (by have := HT.out; have := H1.out; omega)]; have := H1.out; omega
    have d3 : decide ((16 : Int) ≤ ((t - seq : Nat) : Int)) = false := by have := H2.out; simp; omega
    have d7 : decide (t < seq) = false := by have := H1.out; simp; omega
    have d8 : ¬ (t < seq) := by have := H1.out; omega
    have d9 : decide ((16 : Int) ≤ (t : Int) - (seq : Int)) = false := by have := H2.out; have := H1.out; simp; omega
    have d10 : ¬ ((16 : Int) ≤ (t : Int) - (seq : Int)) := by have := H2.out; have := H1.out; omega
    have d4 : 0 ≤ ((t - seq : Nat) : Int) := by omega
    have d5 : ((t - seq : Nat) : Int).toNat = t - seq := Int.toNat_natCast _
    have d6 : t - seq < 16 := H2.out
    obtain ⟨a', cap', he, -, hcc⟩ := HL4.out
    obtain ⟨rfl, -, rfl⟩ : a = a' ∧ 16 = L.length ∧ c + 16 = cap' := by simpa using he
    obtain ⟨b, off, rfl, hx⟩ := hcc (by intro e; have := HQ.out; rw [e] at this; simp at this)
    have x0 := hx (t - seq) _ (bo_get (by have := HQ.out; omega))
    rw [H3.out] at x0
    clear he hcc hx
    rcases HO4.out.2 with ⟨e, -⟩ | ⟨g, cp, cur, e, hg1, hg2, hg3⟩
    · cases e
    · obtain ⟨rfl, rfl⟩ : ua = some ⟨g, 0, none⟩ ∧ uc = cp := by simpa using e
      have y0 : w4.cell? ⟨g, t - seq, none⟩ = some (.bool (L.getD (t - seq) false)) := by
        have h := HO4.out.cells (g := g) rfl (t - seq) (.bool (L.getD (t - seq) false)) (by rw [List.getElem?_map, bo_get (by have := HQ.out; omega)]; rfl)
        rwa [Go.WideShapes.add_plain, Nat.zero_add] at h
      have HG := Lib.hid (Cs.of_heap hg2)
      have y1 : w4.frozen? ⟨g, t - seq, none⟩ = false := HG.out.2.1 _ (by
        have h1 := hg3.1
        have h2 := hg3.2.2.1
        omega)
      rw [H3.out] at y0
      clear e hg2 hg3
      have HGE := Lib.hid (show w.heap.size + 1 < g by have := HZ.out; have := (row_lt0 HO4.out rfl).1; omega)
      have hgr : ¬ (g = w.heap.size + 1) := by have := HGE.out; omega
      have hrg : ¬ (w.heap.size + 1 = g) := by have := HGE.out; omega
      have r0 : w4.cell? ⟨w.heap.size + 1, 0, none⟩ = some (.int .i64 0) := HR4.out.c 0 rfl
      have r1 : w4.cell? ⟨w.heap.size + 1, 1, none⟩ = some (.slice none 0 0) := HR4.out.c 1 rfl
      have p0 := HR4.out.f 0 (by simp)
      have p1 := HR4.out.f 1 (by simp)
      have hng : ¬ (g = n) := HNE.out g rfl
      have hgn : ¬ (n = g) := fun e => hng e.symm
      have n0 : w4.cell? ⟨n, 0, none⟩ = some (.int .i64 t) := HN4.out.c 0 rfl
      have n1 : w4.cell? ⟨n, 1, none⟩ = some (.slice (some ⟨g, 0, none⟩) 16 uc) := HN4.out.c 1 rfl
      go_wp2_with fail
      refine (fun (h : ∀ W : World, Cs W (w.heap.size + 1) #[.int .i64 t, (.slice (some ⟨g, 0, none⟩) 16 uc)] → Below w.heap.size w W → bodyPost Try.prog Try.f36 _ Exit.ret _ W) => h _ (Cs.set (Cs.set (Cs.other HR4.out hrg (t - seq) (.bool true)) 0 (by simp) (.int .i64 t) rfl) 1 (by simp) (.slice (some ⟨g, 0, none⟩) 16 uc) (vs' := #[.int .i64 t, (.slice (some ⟨g, 0, none⟩) 16 uc)]) rfl) (((HB4.out.setCell (p := ⟨g, t - seq, none⟩) (by have := HGE.out; simp; omega) _).setCell (p := ⟨w.heap.size + 1, 0, none⟩) (Nat.le_succ _) _).setCell (p := ⟨w.heap.size + 1, 1, none⟩) (Nat.le_succ _) _)) ?_
      intro W hC hB
      have k0 : W.cell? ⟨w.heap.size + 1, 0, none⟩ = some (.int .i64 t) := hC.c 0 rfl
      have k1 : W.cell? ⟨w.heap.size + 1, 1, none⟩ = some (.slice (some ⟨g, 0, none⟩) 16 uc) := hC.c 1 rfl
      exact bodyPost_ret (v := .tuple #[.agg #[.int .i64 t, (.slice (some ⟨g, 0, none⟩) 16 uc)], .int .i64 0]) (by simp [results, Try.results36, go_sem, k0, k1]) rfl ⟨⟨_, _, rfl⟩, hB⟩
end Go.Proofs.Ytifnhfpdcbpjlaa
