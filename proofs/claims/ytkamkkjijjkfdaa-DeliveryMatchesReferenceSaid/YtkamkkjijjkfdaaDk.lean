/- Delivery: 'Confirm'. -/
import Derived.Test.YtkamkkjijjkfdaaDj
import Derived.Deep.CutRange
namespace Go.Proofs.Ytkamkkjijjkfdaa
open Go.RowKit

theorem row_ltD {w : World} {base e s n c m g : Nat} {a : Option Addr} {xs : List Value} (h : w.ownsRow base e s (.slice a n c) m xs) (ha : a = some ⟨g, 0, none⟩) : base ≤ g ∧ g < w.heap.size := by
  subst ha
  rcases h.2 with ⟨e, -⟩ | ⟨g', cp, cur, e, h1, h2, -⟩
  · cases e
  · obtain ⟨rfl, -, -⟩ : g = g' ∧ n = m ∧ c = cp := by simpa using e
    exact ⟨h1, (Array.getElem?_eq_some_iff.1 h2).1⟩
theorem row_baseD {w : World} {base b2 e s : Nat} {v : Value} {n : Nat} {xs : List Value} (h : w.ownsRow base e s v n xs) (hb : b2 ≤ base) : w.ownsRow b2 e s v n xs := by
  refine ⟨h.1, ?_⟩
  rcases h.2 with h0 | ⟨g, cap, cur, h1, h2, h3, h4⟩
  · exact .inl h0
  · exact .inr ⟨g, cap, cur, h1, Nat.le_trans hb h2, h3, h4⟩
theorem row_capD {w : World} {base e s n c : Nat} {a : Option Addr} {xs : List Value} (h : w.ownsRow base e s (.slice a n c) n xs) : n ≤ c := by
  rcases h.2 with ⟨e, h0⟩ | ⟨g, cap, cur, e, h1, h2, h3, h4, -⟩
  · omega
  · cases e; exact h3
/-- The copy of a sender. -/
def CfG (wq : World) (nx : Int) (L : List Od) (p : Value) (wc : World) : Prop :=
  ∃ (k uc : Nat) (ua : Option Addr), p = .pointer (some ⟨k, 0, none⟩) ∧ wq.heap.size ≤ k ∧ (∀ g, ua = some ⟨g, 0, none⟩ → g ≠ k) ∧ Cs wc k #[.int .i64 nx, .slice ua L.length uc] ∧ wc.ownsRow wq.heap.size 32 4 (.slice ua L.length uc) L.length (ocs L) ∧ Below wq.heap.size wq wc
theorem CfG.after {wq w3 : World} {nx : Int} {L : List Od} {B uc : Nat} {ua : Option Addr} (h : Below wq.heap.size wq w3) (hu : w3.ownsRow B 32 4 (.slice ua L.length uc) L.length (ocs L)) (hB : wq.heap.size ≤ B) :
    CfG wq nx L (.pointer (some ⟨w3.heap.size, 0, none⟩)) (w3.alloc (.cells #[.int .i64 nx, .slice ua L.length uc] 24)) :=
  ⟨_, uc, ua, rfl, h.size, fun g hg => (by have := (row_ltD hu hg).2; omega), Cs.new w3 _ _ 24 rfl, row_step (row_baseD hu hB) (al _ _), h.alloc h.size _⟩
theorem CfG.before {wq w3 : World} {nx : Int} {L : List Od} {B uc : Nat} {ua : Option Addr} (h : Below wq.heap.size wq w3) (hu : w3.ownsRow B 32 4 (.slice ua L.length uc) L.length (ocs L)) (hB : wq.heap.size < B) (hc : Cs w3 wq.heap.size #[.int .i64 0, .slice none 0 0]) :
    CfG wq nx L (.pointer (some ⟨wq.heap.size, 0, none⟩)) ((w3.setCell ⟨wq.heap.size, 0, none⟩ (.int .i64 nx)).setCell ⟨wq.heap.size, 1, none⟩ (.slice ua L.length uc)) :=
  ⟨_, uc, ua, rfl, Nat.le_refl _, fun g hg => (by have := (row_ltD hu hg).1; omega), Cs.set (Cs.set hc 0 (by simp) (.int .i64 nx) rfl) 1 (by simp) (.slice ua L.length uc) rfl, row_baseD (ownsRow_setCell_below (ownsRow_setCell_below hu (a := ⟨wq.heap.size, 0, none⟩) hB _) (a := ⟨wq.heap.size, 1, none⟩) hB _) (Nat.le_of_lt hB), (h.setCell (p := ⟨wq.heap.size, 0, none⟩) (Nat.le_refl _) _).setCell (p := ⟨wq.heap.size, 1, none⟩) (Nat.le_refl _) _⟩
/-- What 'Confirm' leaves. -/
def cfL (_ seq : Int) (L : List Od) (r : Bool) : List Od := match r, fdI seq L 0 with
  | true, some i => L.take i ++ L.drop (i + 1)
  | _, _ => L
/-- A sender is returned. -/
def SdP (w : World) (nx : Int) (L : List Od) (e : Ending) (w' : World) : Prop :=
  ∃ (uc : Nat) (ua : Option Addr), e = .returned (.agg #[.int .i64 nx, .slice ua L.length uc]) ∧ OdsAt w' (.slice ua L.length uc) L ∧ Below w.heap.size w w'
theorem ods_oth {w : World} {aa : Option Addr} {n c b : Nat} {l : List Od} (h : OdsAt w (.slice aa n c) l) (hne : ∀ g o, aa = some ⟨g, o, none⟩ → g ≠ b) (j : Nat) (v : Value) : OdsAt (w.setCell ⟨b, j, none⟩ v) (.slice aa n c) l := by
  obtain ⟨a, cap, hv, h1, hm, hc⟩ := h
  refine ⟨a, cap, hv, h1, hm, fun hl => ?_⟩
  obtain ⟨b1, off, ha, hx⟩ := hc hl
  have hg : aa = a := by simp at hv; exact hv.1
  have hn := hne b1 off (hg.trans ha)
  have hk := fun o => World.cell?_of_block (a := ⟨b1, o, none⟩) (Below.heap_setCell w ⟨b, j, none⟩ v b1 hn)
  refine ⟨b1, off, ha, fun i x hi => ?_⟩
  obtain ⟨q0, q1, q2, q3⟩ := hx i x hi
  exact ⟨(hk _).trans q0, (hk _).trans q1, (hk _).trans q2, (hk _).trans q3⟩
theorem row_adrD {w : World} {base e s n c : Nat} {a : Option Addr} {m : Nat} {xs : List Value} (h : w.ownsRow base e s (.slice a n c) m xs) : ∀ g o, a = some ⟨g, o, none⟩ → base ≤ g := by
  intro g o ha
  subst ha
  rcases h.2 with ⟨e, -⟩ | ⟨g', cp, cur, e, h1, -⟩
  · cases e
  · cases e; exact h1
set_option maxRecDepth 100000 in
set_option maxHeartbeats 8000000 in
theorem confirm_any (nx seq : Int) (sa : Option Addr) (sc : Nat) (L : List Od) (r : Bool) (hr : r = true ↔ SnP nx L) (w : World) (h : OdsAt w (.slice sa L.length sc) L) (h9 : L.length ≤ 100000) :
    Calls Try.prog 17 #[.agg #[.int .i64 nx, .slice sa L.length sc], .int .i64 seq] w (SdP w nx (cfL nx seq L r)) := by
  have HC0 := Lib.hid ((Cs.new w w.heap.size #[.int .i64 nx, .slice sa L.length sc] 24 rfl).step (al2 (w := w.alloc (.cells #[.int .i64 nx, .slice sa L.length sc] 24)) (o1 := .cells #[.int .i64 seq] 3) (o2 := .cells #[.int .i64 0, .slice none 0 0] 24)))
  have HQ0 := Lib.hid ((Cs.new (w.alloc (.cells #[.int .i64 nx, .slice sa L.length sc] 24)) (w.heap.size + 1) #[.int .i64 seq] 3 (by simp)).alloc (.cells #[.int .i64 0, .slice none 0 0] 24))
  have HR0 := Lib.hid (Cs.new ((w.alloc (.cells #[.int .i64 nx, .slice sa L.length sc] 24)).alloc (.cells #[.int .i64 seq] 3)) (w.heap.size + 1 + 1) #[.int .i64 0, .slice none 0 0] 24 (by simp))
  have HB0 := Lib.hid (al3 (w := w) (o1 := .cells #[.int .i64 nx, .slice sa L.length sc] 24) (o2 := .cells #[.int .i64 seq] 3) (o3 := .cells #[.int .i64 0, .slice none 0 0] 24))
  have HL0 := Lib.hid (h.step HB0.out)
  have H9 := Lib.hid h9
  have HRR := Lib.hid hr
  have hm : L.length ≤ maxLen := by unfold maxLen; omega
  clear h hr h9
  go_enter Try.func17, Try.ntmps17
  go_upto_region 1 with fail
  generalize ((w.alloc (.cells #[.int .i64 nx, .slice sa L.length sc] 24)).alloc (.cells #[.int .i64 seq] 3)).alloc (.cells #[.int .i64 0, .slice none 0 0] 24) = wq at *
  go_cut [5] from 8 to 14 (fun p wc => CfG wq nx L p wc)
  case first =>
    have c0 : wq.cell? ⟨w.heap.size, 0, none⟩ = some (.int .i64 nx) := HC0.out.c 0 rfl
    have c1 : wq.cell? ⟨w.heap.size, 1, none⟩ = some (.slice sa L.length sc) := HC0.out.c 1 rfl
    have d0 : (wq.alloc (.cells #[.int .i64 0, .slice none 0 0] 24)).cell? ⟨w.heap.size, 0, none⟩ = some (.int .i64 nx) := (HC0.out.alloc _).c 0 rfl
    have d1 : (wq.alloc (.cells #[.int .i64 0, .slice none 0 0] 24)).cell? ⟨w.heap.size, 1, none⟩ = some (.slice sa L.length sc) := (HC0.out.alloc _).c 1 rfl
    go_region_law (go_simp; go_at_call 31; refine (od_clone (.slice sa L.length sc) L _ (HL0.out.step (by first | exact below_drew _ _ | exact (al _ _).trans (below_drew _ _))) H9.out).mono ?_; rintro e w3 ⟨u, rfl, hu, b3⟩; obtain ⟨ua, uc, rfl⟩ := row_slice hu; have HU := Lib.hid hu; have HW3 := Lib.hid (show Below wq.heap.size wq w3 from by first | exact (below_drew _ _).trans b3 | exact keep2 b3 ((al wq _).trans (below_drew _ _))); have m0 : w3.cell? ⟨w.heap.size, 0, none⟩ = some (.int .i64 nx) := (HC0.out.step HW3.out).c 0 rfl; have m1 : w3.cell? ⟨w.heap.size, 1, none⟩ = some (.slice sa L.length sc) := (HC0.out.step HW3.out).c 1 rfl; have n0 : (w3.alloc (.cells #[.int .i64 0, .slice none 0 0] 24)).cell? ⟨w.heap.size, 0, none⟩ = some (.int .i64 nx) := ((HC0.out.step HW3.out).alloc _).c 0 rfl; have n1 : (w3.alloc (.cells #[.int .i64 0, .slice none 0 0] 24)).cell? ⟨w.heap.size, 1, none⟩ = some (.slice sa L.length sc) := ((HC0.out.step HW3.out).alloc _).c 1 rfl; (first | (have HQB := Lib.hid (show wq.heap.size < (wq.alloc (.cells #[.int .i64 0, .slice none 0 0] 24)).drew.heap.size by simp); have HU2 := Lib.hid (show w3.ownsRow (wq.alloc (.cells #[.int .i64 0, .slice none 0 0] 24)).drew.heap.size 32 4 (.slice ua L.length uc) L.length (ocs L) from hu); have HQ3 := Lib.hid (show Cs w3 wq.heap.size #[.int .i64 0, .slice none 0 0] from ((Cs.new wq wq.heap.size #[.int .i64 0, .slice none 0 0] 24 rfl).step (below_drew _ _)).step b3); have q0 : w3.cell? ⟨wq.heap.size, 0, none⟩ = some (.int .i64 0) := HQ3.out.c 0 rfl; have q1 : w3.cell? ⟨wq.heap.size, 1, none⟩ = some (.slice none 0 0) := HQ3.out.c 1 rfl; have g0 := HQ3.out.f 0 (by simp); have g1 := HQ3.out.f 1 (by simp)) | (have HQA := Lib.hid (show wq.heap.size ≤ wq.drew.heap.size from Nat.le_refl _))); clear hu b3)
    all_goals go_wp2
    all_goals go_meet
    all_goals first | with_reducible exact CfG.after HW3.out HU.out HQA.out | with_reducible exact CfG.before HW3.out HU2.out HQB.out HQ3.out
  case rest =>
    obtain ⟨k, uc, ua, rfl, hk, hne, hcs, hrow, hb⟩ := hcut
    have HC1 := Lib.hid (HC0.out.step hb)
    have HQ1 := Lib.hid (HQ0.out.step hb)
    have HR1 := Lib.hid (HR0.out.step hb)
    have HB1 := Lib.hid (keep2 hb HB0.out)
    have HL1 := Lib.hid (HL0.out.step hb)
    have HN1 := Lib.hid hcs
    have HO1 := Lib.hid hrow
    have HKK := Lib.hid hk
    have HNE := Lib.hid hne
    have HZ := Lib.hid (show w.heap.size + 1 + 1 < wq.heap.size from HR0.out.2.2)
    clear hcs hb hrow hk hne HC0 HR0 HL0 HB0 HQ0
    unfold maxLen at hm
    have c0 := HC1.out.c 0 rfl
    have c1 := HC1.out.c 1 rfl
    have cz := HC1.out.2.2
    go_wp2_with fail
    refine (findO_any (.slice sa L.length sc) L seq (w.heap.size + 1) _ HL1.out HQ1.out).mono ?_
    rintro e w4 ⟨rfl, b4⟩
    have HC4 := Lib.hid (HC1.out.step b4)
    have HR4 := Lib.hid (HR1.out.step b4)
    have HB4 := Lib.hid (keep2 b4 HB1.out)
    have HL4 := Lib.hid (HL1.out.step b4)
    have HN4 := Lib.hid (HN1.out.step b4)
    have HO4 := Lib.hid (row_step HO1.out b4)
    clear b4 c0 c1 cz HC1 HR1 HB1 HL1 HN1 HO1 HQ1
    have c0 := HC4.out.c 0 rfl
    have c1 := HC4.out.c 1 rfl
    have cz := HC4.out.2.2
    cases r
    · have HE := Lib.hid (show cfL nx seq L false = L from rfl)
      go_wp2_with fail
      refine (isSender_any nx sa sc L false (by have h := HRR.out; simpa using h) _ HL4.out).mono ?_
      rintro e w5 ⟨rfl, b5⟩
      have HR5 := Lib.hid (HR4.out.step b5)
      have HB5 := Lib.hid (keep2 b5 HB4.out)
      have HN5 := Lib.hid (HN4.out.step b5)
      have HO5 := Lib.hid (row_step HO4.out b5)
      clear b5 c0 c1 cz HC4 HR4 HB4 HL4 HN4 HO4
      have r0 := HR5.out.c 0 rfl
      have r1 := HR5.out.c 1 rfl
      have rf0 := HR5.out.f 0 (by simp)
      have rf1 := HR5.out.f 1 (by simp)
      have rz := HR5.out.2.2
      have n0 := HN5.out.c 0 rfl
      have n1 := HN5.out.c 1 rfl
      have nz := HN5.out.2.2
      go_wp2_with fail
      have HLE := Lib.hid (show w.heap.size ≤ w.heap.size + 1 + 1 by omega)
      have hgn : ∀ g' o, ua = some ⟨g', o, none⟩ → g' ≠ w.heap.size + 1 + 1 := fun g' o e => by have := row_adrD HO5.out g' o e; have := HZ.out; omega
      refine (fun (h : ∀ V : World, Cs V (w.heap.size + 1 + 1) #[.int .i64 nx, .slice ua L.length uc] → OdsAt V (.slice ua L.length uc) L → Below w.heap.size w V → bodyPost Try.prog Try.f17 _ Exit.ret _ V) => h _ (Cs.set (Cs.set HR5.out 0 (by simp) (.int .i64 nx) rfl) 1 (by simp) (.slice ua L.length uc) (vs' := #[.int .i64 nx, .slice ua L.length uc]) rfl) (ods_oth (ods_oth (ods_of_row rfl HO5.out) hgn 0 _) hgn 1 _) ((HB5.out.setCell (p := ⟨w.heap.size + 1 + 1, 0, none⟩) HLE.out _).setCell (p := ⟨w.heap.size + 1 + 1, 1, none⟩) HLE.out _)) ?_
      intro V hC hO hB
      have k0 : V.cell? ⟨w.heap.size + 1 + 1, 0, none⟩ = some (.int .i64 nx) := hC.c 0 rfl
      have k1 : V.cell? ⟨w.heap.size + 1 + 1, 1, none⟩ = some (.slice ua L.length uc) := hC.c 1 rfl
      exact bodyPost_ret (v := .agg #[.int .i64 nx, .slice ua L.length uc]) (by simp [results, Try.results17, go_sem, k0, k1]) rfl ⟨uc, ua, by rw [HE.out], by rw [HE.out]; exact hO, hB⟩
    · cases hf : fdI seq L 0 with
      | none =>
        have HE := Lib.hid (show cfL nx seq L true = L by unfold cfL; rw [hf])
        have HF := Lib.hid hf
        simp only [Option.isSome_none]
        clear hf
        go_wp2_with fail
        refine (isSender_any nx sa sc L true (by have h := HRR.out; simpa using h) _ HL4.out).mono ?_
        rintro e w5 ⟨rfl, b5⟩
        have HR5 := Lib.hid (HR4.out.step b5)
        have HB5 := Lib.hid (keep2 b5 HB4.out)
        have HN5 := Lib.hid (HN4.out.step b5)
        have HO5 := Lib.hid (row_step HO4.out b5)
        clear b5 c0 c1 cz HC4 HR4 HB4 HL4 HN4 HO4
        have r0 := HR5.out.c 0 rfl
        have r1 := HR5.out.c 1 rfl
        have rf0 := HR5.out.f 0 (by simp)
        have rf1 := HR5.out.f 1 (by simp)
        have rz := HR5.out.2.2
        have n0 := HN5.out.c 0 rfl
        have n1 := HN5.out.c 1 rfl
        have nz := HN5.out.2.2
        go_wp2_with fail
        have HLE := Lib.hid (show w.heap.size ≤ w.heap.size + 1 + 1 by omega)
        have hgn : ∀ g' o, ua = some ⟨g', o, none⟩ → g' ≠ w.heap.size + 1 + 1 := fun g' o e => by have := row_adrD HO5.out g' o e; have := HZ.out; omega
        refine (fun (h : ∀ V : World, Cs V (w.heap.size + 1 + 1) #[.int .i64 nx, .slice ua L.length uc] → OdsAt V (.slice ua L.length uc) L → Below w.heap.size w V → bodyPost Try.prog Try.f17 _ Exit.ret _ V) => h _ (Cs.set (Cs.set HR5.out 0 (by simp) (.int .i64 nx) rfl) 1 (by simp) (.slice ua L.length uc) (vs' := #[.int .i64 nx, .slice ua L.length uc]) rfl) (ods_oth (ods_oth (ods_of_row rfl HO5.out) hgn 0 _) hgn 1 _) ((HB5.out.setCell (p := ⟨w.heap.size + 1 + 1, 0, none⟩) HLE.out _).setCell (p := ⟨w.heap.size + 1 + 1, 1, none⟩) HLE.out _)) ?_
        intro V hC hO hB
        have k0 : V.cell? ⟨w.heap.size + 1 + 1, 0, none⟩ = some (.int .i64 nx) := hC.c 0 rfl
        have k1 : V.cell? ⟨w.heap.size + 1 + 1, 1, none⟩ = some (.slice ua L.length uc) := hC.c 1 rfl
        exact bodyPost_ret (v := .agg #[.int .i64 nx, .slice ua L.length uc]) (by simp [results, Try.results17, go_sem, k0, k1]) rfl ⟨uc, ua, by rw [HE.out], by rw [HE.out]; exact hO, hB⟩
      | some i =>
        have HE := Lib.hid (show cfL nx seq L true = L.take i ++ L.drop (i + 1) by unfold cfL; rw [hf])
        have hi : i < L.length := by have := (fdI_some.1 hf).2.1; omega
        simp only [Option.isSome_some, Option.getD_some]
        clear hf
        go_wp2_with fail
        refine (isSender_any nx sa sc L true (by have h := HRR.out; simpa using h) _ HL4.out).mono ?_
        rintro e w5 ⟨rfl, b5⟩
        have HR5 := Lib.hid (HR4.out.step b5)
        have HB5 := Lib.hid (keep2 b5 HB4.out)
        have HN5 := Lib.hid (HN4.out.step b5)
        have HO5 := Lib.hid (row_step HO4.out b5)
        clear b5 c0 c1 cz HC4 HR4 HB4 HL4 HN4 HO4
        obtain ⟨g, rfl⟩ : ∃ g, ua = some ⟨g, 0, none⟩ := by
          rcases HO5.out.2 with ⟨e, e2⟩ | ⟨g, cp, cur, e, -⟩
          · omega
          · simp at e; exact ⟨g, e.1⟩
        have hgk := HNE.out g rfl
        have hcap := row_capD HO5.out
        have n1 := HN5.out.c 1 rfl
        have nf1 := HN5.out.f 1 (by simp)
        have nz := HN5.out.2.2
        have hw : wrap64 ((i : Int) + 1) = ((i + 1 : Nat) : Int) := by rw [IntWalk.wrap64_in _ (by omega)]; omega
        have HI := Lib.hid hi
        clear hi
        go_wp2_with fail
        first | rw [hw] | skip
        refine (od_delete g uc i L wq.heap.size _ HO5.out HI.out H9.out hcap).mono ?_
        rintro e w6 ⟨rfl, hrow6, b6, kp6⟩
        obtain ⟨LL, hLL⟩ : ∃ LL, L.take i ++ L.drop (i + 1) = LL := ⟨_, rfl⟩
        have hLn : LL.length = L.length - 1 := by rw [← hLL, List.length_append, List.length_take, List.length_drop]; have := HI.out; omega
        rw [hLL] at hrow6
        rw [hLL] at HE
        rw [← hLn] at hrow6
        rw [← hLn]
        clear hLn
        have HR7 := Lib.hid (cs_block HR5.out (b6.block _ HZ.out) b6.size)
        have HB7 := Lib.hid (HB5.out.trans (b6.mono (by have := HZ.out; omega)))
        have HN7 := Lib.hid (kp6 k _ (fun e => hgk e.symm) HN5.out)
        have HO7 := Lib.hid hrow6
        clear hrow6 b6 kp6 n1 nf1 nz HR5 HB5 HN5 HO5 hLL hcap hw
        have HN8 := Lib.hid (Cs.set HN7.out 1 (by simp) (.slice (some ⟨g, 0, none⟩) LL.length uc) (vs' := #[.int .i64 nx, .slice (some ⟨g, 0, none⟩) LL.length uc]) rfl)
        have HR8 := Lib.hid (Cs.other HR7.out (show w.heap.size + 1 + 1 ≠ k by have := HZ.out; have := HKK.out; omega) 1 (.slice (some ⟨g, 0, none⟩) LL.length uc))
        have HO8 := Lib.hid (ownsRow_setCell_other HO7.out (a := ⟨k, 1, none⟩) (by simpa [Value.ownBlock] using hgk) (.slice (some ⟨g, 0, none⟩) LL.length uc))
        have HB8 := Lib.hid (HB7.out.setCell (p := ⟨k, 1, none⟩) (show w.heap.size ≤ k by have := HZ.out; have := HKK.out; omega) (.slice (some ⟨g, 0, none⟩) LL.length uc))
        have n1 := HN7.out.c 1 rfl
        have nf1 := HN7.out.f 1 (by simp)
        have nz := HN7.out.2.2
        have n0 := HN7.out.c 0 rfl
        have r0 := HR7.out.c 0 rfl
        have r1 := HR7.out.c 1 rfl
        have rf0 := HR7.out.f 0 (by simp)
        have rf1 := HR7.out.f 1 (by simp)
        have rz := HR7.out.2.2
        have hk1 : ¬ k = w.heap.size + 1 + 1 := by have := HZ.out; have := HKK.out; omega
        have hk2 : ¬ w.heap.size + 1 + 1 = k := by have := HZ.out; have := HKK.out; omega
        go_wp2_with fail
        have HLE := Lib.hid (show w.heap.size ≤ w.heap.size + 1 + 1 by omega)
        have hgn : ∀ g' o, (some (⟨g, 0, none⟩ : Addr)) = some ⟨g', o, none⟩ → g' ≠ w.heap.size + 1 + 1 := fun g' o e => by have := row_adrD HO8.out g' o e; have := HZ.out; omega
        refine (fun (h : ∀ V : World, Cs V (w.heap.size + 1 + 1) #[.int .i64 nx, .slice (some (⟨g, 0, none⟩ : Addr)) LL.length uc] → OdsAt V (.slice (some (⟨g, 0, none⟩ : Addr)) LL.length uc) LL → Below w.heap.size w V → bodyPost Try.prog Try.f17 _ Exit.ret _ V) => h _ (Cs.set (Cs.set HR8.out 0 (by simp) (.int .i64 nx) rfl) 1 (by simp) (.slice (some (⟨g, 0, none⟩ : Addr)) LL.length uc) (vs' := #[.int .i64 nx, .slice (some (⟨g, 0, none⟩ : Addr)) LL.length uc]) rfl) (ods_oth (ods_oth (ods_of_row rfl HO8.out) hgn 0 _) hgn 1 _) ((HB8.out.setCell (p := ⟨w.heap.size + 1 + 1, 0, none⟩) HLE.out _).setCell (p := ⟨w.heap.size + 1 + 1, 1, none⟩) HLE.out _)) ?_
        intro V hC hO hB
        have k0 : V.cell? ⟨w.heap.size + 1 + 1, 0, none⟩ = some (.int .i64 nx) := hC.c 0 rfl
        have k1 : V.cell? ⟨w.heap.size + 1 + 1, 1, none⟩ = some (.slice (some (⟨g, 0, none⟩ : Addr)) LL.length uc) := hC.c 1 rfl
        exact bodyPost_ret (v := .agg #[.int .i64 nx, .slice (some (⟨g, 0, none⟩ : Addr)) LL.length uc]) (by simp [results, Try.results17, go_sem, k0, k1]) rfl ⟨uc, some ⟨g, 0, none⟩, by rw [HE.out], by rw [HE.out]; exact hO, hB⟩


end Go.Proofs.Ytkamkkjijjkfdaa
