/- Leases: 'Elect', of the program. -/
import Derived.Test.YtifnhfpdcbpjlaaLf
namespace Go.Proofs.Ytifnhfpdcbpjlaa
open Go.RowKit

/-- How many agree. -/
def agreed (L : List Vo) (A : List Bool) (h f u now : Int) : Nat := cntN (agV h f u now) (yesN L A L.length) (yesN L A L.length).length
/-- The ways of 'Elect'. -/
inductive EW (L : List Vo) (A : List Bool) (hub now len : Int) : List Vo → Int → Int → Int → Int → Prop
  | no (h0 f0 u0 er : Int) : PW L A hub now len h0 f0 u0 er → er ≠ 0 → EW L A hub now len [] 0 0 0 er
  | few (h f u : Int) : PW L A hub now len h f u 0 → ¬ L.length < 2 * agreed L A h f u now → EW L A hub now len (elL L A h f u now) 0 0 0 22
  | ok (h f u : Int) : PW L A hub now len h f u 0 → L.length < 2 * agreed L A h f u now → EW L A hub now len (elL L A h f u now) h f u 0
theorem ew_total (L : List Vo) (A : List Bool) (hub now len : Int) : ∃ V h f u er, EW L A hub now len V h f u er := by
  obtain ⟨h, f, u, er, hp⟩ := pw_total L A hub now len
  by_cases he : er = 0
  · subst he
    by_cases h2 : L.length < 2 * agreed L A h f u now
    · exact ⟨_, _, _, _, _, .ok h f u hp h2⟩
    · exact ⟨_, _, _, _, _, .few h f u hp h2⟩
  · exact ⟨_, _, _, _, _, .no h f u er hp he⟩
theorem pw_ok {L : List Vo} {A : List Bool} {hub now len h f u : Int} (hp : PW L A hub now len h f u 0) : argB L.length A.length hub now len = true := by
  cases hp with
  | ok _ h1 => exact h1
def EPost (V : List Vo) (h f u er : Int) (w : World) (e : Ending) (w' : World) : Prop := ∃ r, e = .returned (.tuple #[r, .agg #[.int .i64 h, .int .i64 f, .int .i64 u], .int .i64 er]) ∧ VosAt w' r V ∧ Below w.heap.size w w'
theorem EPost.mk {V : List Vo} {h f u er : Int} {w w' : World} {r : Value} (hv : VosAt w' r V) (hb : Below w.heap.size w w') : EPost V h f u er w (.returned (.tuple #[r, .agg #[.int .i64 h, .int .i64 f, .int .i64 u], .int .i64 er])) w' := ⟨r, rfl, hv, hb⟩
set_option maxRecDepth 100000 in
set_option maxHeartbeats 4000000 in
theorem elect_no (v va : Value) (L : List Vo) (A : List Bool) (hub now len h f u er : Int) (w : World) (hl : VosAt w v L) (ha : BosAt w va A) (hp : PW L A hub now len h f u er) (he : er ≠ 0) :
    Calls Try.prog 7 #[v, va, .int .i64 hub, .int .i64 now, .int .i64 len] w (EPost [] 0 0 0 er w) := by
  have hla := Lib.hid hl
  have haa := Lib.hid ha
  obtain ⟨a, cap, rfl, hm, -⟩ := hl
  obtain ⟨aa, capa, rfl, hma, -⟩ := ha
  unfold maxLen at hm hma
  have HN := Lib.hid ((Cs.new w w.heap.size #[.int .i64 now] 3 rfl).alloc (.cells #[.int .i64 0, .int .i64 0, .int .i64 0] 24))
  have HO := Lib.hid (Cs.new (w.alloc (.cells #[.int .i64 now] 3)) (w.heap.size + 1) #[.int .i64 0, .int .i64 0, .int .i64 0] 24 (by simp))
  have HB := Lib.hid (al2 (w := w) (o1 := .cells #[.int .i64 now] 3) (o2 := .cells #[.int .i64 0, .int .i64 0, .int .i64 0] 24))
  have HP := Lib.hid (propose_any hp (.slice a L.length cap) (.slice aa A.length capa) _ (hla.out.step (al2 (w := w) (o1 := .cells #[.int .i64 now] 3) (o2 := .cells #[.int .i64 0, .int .i64 0, .int .i64 0] 24))) (haa.out.step (al2 (w := w))))
  have q : (er != 0) = true := by simpa using he
  have q2 : (er == 0) = false := by simpa using he
  clear hp he
  go_enter Try.func7, Try.ntmps7
  go_wp2_with fail
  refine HP.out.mono ?_
  rintro e w1 ⟨rfl, b1⟩
  have HOw := Lib.hid (HO.out.step b1)
  have HBw := Lib.hid (keep2 b1 HB.out)
  have HN1 := Lib.hid ((HN.out.step b1).alloc (.cells #[.int .i64 h, .int .i64 f, .int .i64 u] 24))
  have HO1 := Lib.hid ((HO.out.step b1).alloc (.cells #[.int .i64 h, .int .i64 f, .int .i64 u] 24))
  have HL1 := Lib.hid (Cs.new w1 w1.heap.size #[.int .i64 h, .int .i64 f, .int .i64 u] 24 rfl)
  have HB1 := Lib.hid ((keep2 b1 HB.out).alloc (keep2 b1 HB.out).size (.cells #[.int .i64 h, .int .i64 f, .int .i64 u] 24))
  have hz0 : w.heap.size + 1 + 1 ≤ w1.heap.size := by have := b1.size; simpa using this
  clear b1
  have x0 := HOw.out.c 0 rfl
  have x1 := HOw.out.c 1 rfl
  have x2 := HOw.out.c 2 rfl
  have z0 := HOw.out.f 0 (by simp)
  have z1 := HOw.out.f 1 (by simp)
  have z2 := HOw.out.f 2 (by simp)
  have hz := HOw.out.2.2
  have hz1 : w.heap.size + 1 < w1.heap.size := by omega
  go_wp2
  exact bodyPost_ret (v := .tuple #[.slice none 0 0, .agg #[.int .i64 0, .int .i64 0, .int .i64 0], .int .i64 er]) (by simp [results, Try.results7, go_sem, x0, x1, x2, hz1]) rfl (EPost.mk (vos_nil _) (by repeat (first | with_reducible exact HBw.out | with_reducible exact Below.refl _ _ | ((with_reducible refine Below.setCell ?_ ?_ _); rotate_left; focus (first | (simp; done) | (simp; omega) | omega)) | ((with_reducible refine Below.alloc ?_ ?_ _); rotate_left; focus (first | (simp; done) | (simp; omega) | omega)) | with_reducible refine Below.trans ?_ (below_drewN' _ _ _) | with_reducible refine Below.trans ?_ (below_drew _ _))))
set_option maxRecDepth 100000 in
set_option maxHeartbeats 8000000 in
theorem elect_few (v va : Value) (L : List Vo) (A : List Bool) (hub now len h f u : Int) (w : World) (hl : VosAt w v L) (ha : BosAt w va A) (hp : PW L A hub now len h f u 0) (hg : ¬ L.length < 2 * agreed L A h f u now) :
    Calls Try.prog 7 #[v, va, .int .i64 hub, .int .i64 now, .int .i64 len] w (EPost (elL L A h f u now) 0 0 0 22 w) := by
  have hla := Lib.hid hl
  have haa := Lib.hid ha
  obtain ⟨a, cap, rfl, hm, -⟩ := hl
  obtain ⟨aa, capa, rfl, hma, -⟩ := ha
  unfold maxLen at hm hma
  have HN := Lib.hid ((Cs.new w w.heap.size #[.int .i64 now] 3 rfl).alloc (.cells #[.int .i64 0, .int .i64 0, .int .i64 0] 24))
  have HO := Lib.hid (Cs.new (w.alloc (.cells #[.int .i64 now] 3)) (w.heap.size + 1) #[.int .i64 0, .int .i64 0, .int .i64 0] 24 (by simp))
  have HB := Lib.hid (al2 (w := w) (o1 := .cells #[.int .i64 now] 3) (o2 := .cells #[.int .i64 0, .int .i64 0, .int .i64 0] 24))
  have HP := Lib.hid (propose_any hp (.slice a L.length cap) (.slice aa A.length capa) _ (hla.out.step (al2 (w := w) (o1 := .cells #[.int .i64 now] 3) (o2 := .cells #[.int .i64 0, .int .i64 0, .int .i64 0] 24))) (haa.out.step (al2 (w := w))))
  obtain ⟨c0, c1, -, c3, -⟩ := arg_all (pw_ok hp)
  obtain ⟨c2, c4⟩ := inr_iff.1 c0
  obtain ⟨t1, t2⟩ := tm_of c3
  have HAL := Lib.hid (show A.length = L.length by omega)
  have h2 : 2 ≤ L.length := by omega
  have h3 : L.length ≤ 3 := by omega
  have HM := Lib.hid (show decide (L.length < 2 * agreed L A h f u now) = false by simpa using hg)
  clear hp hg c0 c1 c2 c3 c4
  go_enter Try.func7, Try.ntmps7
  go_wp2_with fail
  refine HP.out.mono ?_
  rintro e w1 ⟨rfl, b1⟩
  have HOw := Lib.hid (HO.out.step b1)
  have HBw := Lib.hid (keep2 b1 HB.out)
  have HN1 := Lib.hid ((HN.out.step b1).alloc (.cells #[.int .i64 h, .int .i64 f, .int .i64 u] 24))
  have HO1 := Lib.hid ((HO.out.step b1).alloc (.cells #[.int .i64 h, .int .i64 f, .int .i64 u] 24))
  have HL1 := Lib.hid (Cs.new w1 w1.heap.size #[.int .i64 h, .int .i64 f, .int .i64 u] 24 rfl)
  have HB1 := Lib.hid ((keep2 b1 HB.out).alloc (keep2 b1 HB.out).size (.cells #[.int .i64 h, .int .i64 f, .int .i64 u] 24))
  have hz0 : w.heap.size + 1 + 1 ≤ w1.heap.size := by have := b1.size; simpa using this
  clear b1
  have x0 := HL1.out.c 0 rfl
  have x1 := HL1.out.c 1 rfl
  have x2 := HL1.out.c 2 rfl
  have n0 := HN1.out.c 0 rfl
  have hl0 := HL1.out.2.2
  have hn0 := HN1.out.2.2
  simp only [World.size_alloc] at hl0 hn0
  have hn1 : w.heap.size < w1.heap.size := by omega
  have hn2 : w.heap.size + 1 < w1.heap.size := by omega
  have hla1 := Lib.hid (hla.out.step HB1.out)
  have haa1 := Lib.hid (haa.out.step HB1.out)
  have HVD := Lib.hid (voted_any _ _ L A h f u now _ hla1.out haa1.out HAL.out h2 h3)
  go_wp2_with fail
  refine HVD.out.mono ?_
  rintro e w2 ⟨rfl, hr, b2⟩
  rw [show (w1.alloc (.cells #[.int .i64 h, .int .i64 f, .int .i64 u] 24)).heap.size = w1.heap.size + 1 by simp] at hr ⊢
  have HRV := Lib.hid hr
  clear hr HVD
  have HN2 := Lib.hid (HN1.out.step b2)
  have HO2 := Lib.hid (HO1.out.step b2)
  have HL2 := Lib.hid (HL1.out.step b2)
  have HB2 := Lib.hid (keep2 b2 HB1.out)
  have hla2 := Lib.hid (hla.out.step HB2.out)
  have haa2 := Lib.hid (haa.out.step HB2.out)
  have HAN := Lib.hid (answering_any _ _ L A w2 hla2.out haa2.out HAL.out (by omega))
  clear x0 x1 x2 n0 HN1 HO1 HL1 HB1 hla1 haa1 b2
  clear hl0 hn0 hn1 hn2
  go_wp2_with fail
  refine HAN.out.mono ?_
  rintro e w3 ⟨y, rfl, hy, b3⟩
  have HN3 := Lib.hid (HN2.out.step b3)
  have HO3 := Lib.hid (HO2.out.step b3)
  have HL3 := Lib.hid (HL2.out.step b3)
  have HB3 := Lib.hid (keep2 b3 HB2.out)
  have HRV3 := Lib.hid (HRV.out.step b3)
  have HCN := Lib.hid (count_any y (yesN L A L.length) h f u now w1.heap.size w.heap.size w3 hy (by have := yesN_len L A L.length; omega) t1 t2 HL3.out HN3.out)
  have HY9 := Lib.hid (show agreed L A h f u now ≤ 1000000000 by have := yesN_len L A L.length; have := cntN_le (agV h f u now) (yesN L A L.length) (yesN L A L.length).length; unfold agreed; omega)
  clear b3 hy HN2 HO2 HL2 HB2 hla2 haa2 HAN HRV
  go_wp2_with fail
  refine HCN.out.mono ?_
  rintro e w4 ⟨rfl, b4⟩
  have HO4 := Lib.hid (HO3.out.step b4)
  have HL4 := Lib.hid (HL3.out.step b4)
  have HB4 := Lib.hid (keep2 b4 HB3.out)
  have HRV4 := Lib.hid (HRV3.out.step b4)
  clear b4 HCN HN3 HO3 HL3 HB3 HRV3
  rw [show cntN (agV h f u now) (yesN L A L.length) (yesN L A L.length).length = agreed L A h f u now from rfl]
  go_wp2_with fail
  refine (isMajority_q _ _ _ HM.out HY9.out _).mono ?_
  rintro e w' ⟨rfl, rfl⟩
  clear HM HY9
  have HFIN := Lib.hid (((HRV4.out.other (b := w.heap.size + 1) (by omega) 0 (.int .i64 0)).other (b := w.heap.size + 1) (by omega) 1 (.int .i64 0)).other (b := w.heap.size + 1) (by omega) 2 (.int .i64 0))
  clear HRV4
  have hl0 := HL4.out.2.2
  have ho0 := HO4.out.2.2
  have x0 := HL4.out.c 0 rfl
  have x1 := HL4.out.c 1 rfl
  have x2 := HL4.out.c 2 rfl
  have k0 := HO4.out.c 0 rfl
  have k1 := HO4.out.c 1 rfl
  have k2 := HO4.out.c 2 rfl
  have z0 := HO4.out.f 0 (by simp)
  have z1 := HO4.out.f 1 (by simp)
  have z2 := HO4.out.f 2 (by simp)
  go_wp2
  all_goals exact bodyPost_ret (v := .tuple #[.slice (some ⟨w1.heap.size + 1, 0, none⟩) L.length 3, .agg #[.int .i64 0, .int .i64 0, .int .i64 0], .int .i64 22]) (by simp [results, Try.results7, go_sem, k0, k1, k2]) rfl (EPost.mk HFIN.out (by repeat (first | with_reducible exact HB4.out | with_reducible exact Below.refl _ _ | ((with_reducible refine Below.setCell ?_ ?_ _); rotate_left; focus (first | (simp; done) | (simp; omega) | omega)) | ((with_reducible refine Below.alloc ?_ ?_ _); rotate_left; focus (first | (simp; done) | (simp; omega) | omega)) | with_reducible refine Below.trans ?_ (below_drewN' _ _ _) | with_reducible refine Below.trans ?_ (below_drew _ _))))
set_option maxRecDepth 100000 in
set_option maxHeartbeats 8000000 in
theorem elect_ok (v va : Value) (L : List Vo) (A : List Bool) (hub now len h f u : Int) (w : World) (hl : VosAt w v L) (ha : BosAt w va A) (hp : PW L A hub now len h f u 0) (hg : L.length < 2 * agreed L A h f u now) :
    Calls Try.prog 7 #[v, va, .int .i64 hub, .int .i64 now, .int .i64 len] w (EPost (elL L A h f u now) h f u 0 w) := by
  have hla := Lib.hid hl
  have haa := Lib.hid ha
  obtain ⟨a, cap, rfl, hm, -⟩ := hl
  obtain ⟨aa, capa, rfl, hma, -⟩ := ha
  unfold maxLen at hm hma
  have HN := Lib.hid ((Cs.new w w.heap.size #[.int .i64 now] 3 rfl).alloc (.cells #[.int .i64 0, .int .i64 0, .int .i64 0] 24))
  have HO := Lib.hid (Cs.new (w.alloc (.cells #[.int .i64 now] 3)) (w.heap.size + 1) #[.int .i64 0, .int .i64 0, .int .i64 0] 24 (by simp))
  have HB := Lib.hid (al2 (w := w) (o1 := .cells #[.int .i64 now] 3) (o2 := .cells #[.int .i64 0, .int .i64 0, .int .i64 0] 24))
  have HP := Lib.hid (propose_any hp (.slice a L.length cap) (.slice aa A.length capa) _ (hla.out.step (al2 (w := w) (o1 := .cells #[.int .i64 now] 3) (o2 := .cells #[.int .i64 0, .int .i64 0, .int .i64 0] 24))) (haa.out.step (al2 (w := w))))
  obtain ⟨c0, c1, -, c3, -⟩ := arg_all (pw_ok hp)
  obtain ⟨c2, c4⟩ := inr_iff.1 c0
  obtain ⟨t1, t2⟩ := tm_of c3
  have HAL := Lib.hid (show A.length = L.length by omega)
  have h2 : 2 ≤ L.length := by omega
  have h3 : L.length ≤ 3 := by omega
  have HM := Lib.hid (show decide (L.length < 2 * agreed L A h f u now) = true by simpa using hg)
  clear hp hg c0 c1 c2 c3 c4
  go_enter Try.func7, Try.ntmps7
  go_wp2_with fail
  refine HP.out.mono ?_
  rintro e w1 ⟨rfl, b1⟩
  have HOw := Lib.hid (HO.out.step b1)
  have HBw := Lib.hid (keep2 b1 HB.out)
  have HN1 := Lib.hid ((HN.out.step b1).alloc (.cells #[.int .i64 h, .int .i64 f, .int .i64 u] 24))
  have HO1 := Lib.hid ((HO.out.step b1).alloc (.cells #[.int .i64 h, .int .i64 f, .int .i64 u] 24))
  have HL1 := Lib.hid (Cs.new w1 w1.heap.size #[.int .i64 h, .int .i64 f, .int .i64 u] 24 rfl)
  have HB1 := Lib.hid ((keep2 b1 HB.out).alloc (keep2 b1 HB.out).size (.cells #[.int .i64 h, .int .i64 f, .int .i64 u] 24))
  have hz0 : w.heap.size + 1 + 1 ≤ w1.heap.size := by have := b1.size; simpa using this
  clear b1
  have x0 := HL1.out.c 0 rfl
  have x1 := HL1.out.c 1 rfl
  have x2 := HL1.out.c 2 rfl
  have n0 := HN1.out.c 0 rfl
  have hl0 := HL1.out.2.2
  have hn0 := HN1.out.2.2
  simp only [World.size_alloc] at hl0 hn0
  have hn1 : w.heap.size < w1.heap.size := by omega
  have hn2 : w.heap.size + 1 < w1.heap.size := by omega
  have hla1 := Lib.hid (hla.out.step HB1.out)
  have haa1 := Lib.hid (haa.out.step HB1.out)
  have HVD := Lib.hid (voted_any _ _ L A h f u now _ hla1.out haa1.out HAL.out h2 h3)
  go_wp2_with fail
  refine HVD.out.mono ?_
  rintro e w2 ⟨rfl, hr, b2⟩
  rw [show (w1.alloc (.cells #[.int .i64 h, .int .i64 f, .int .i64 u] 24)).heap.size = w1.heap.size + 1 by simp] at hr ⊢
  have HRV := Lib.hid hr
  clear hr HVD
  have HN2 := Lib.hid (HN1.out.step b2)
  have HO2 := Lib.hid (HO1.out.step b2)
  have HL2 := Lib.hid (HL1.out.step b2)
  have HB2 := Lib.hid (keep2 b2 HB1.out)
  have hla2 := Lib.hid (hla.out.step HB2.out)
  have haa2 := Lib.hid (haa.out.step HB2.out)
  have HAN := Lib.hid (answering_any _ _ L A w2 hla2.out haa2.out HAL.out (by omega))
  clear x0 x1 x2 n0 HN1 HO1 HL1 HB1 hla1 haa1 b2
  clear hl0 hn0 hn1 hn2
  go_wp2_with fail
  refine HAN.out.mono ?_
  rintro e w3 ⟨y, rfl, hy, b3⟩
  have HN3 := Lib.hid (HN2.out.step b3)
  have HO3 := Lib.hid (HO2.out.step b3)
  have HL3 := Lib.hid (HL2.out.step b3)
  have HB3 := Lib.hid (keep2 b3 HB2.out)
  have HRV3 := Lib.hid (HRV.out.step b3)
  have HCN := Lib.hid (count_any y (yesN L A L.length) h f u now w1.heap.size w.heap.size w3 hy (by have := yesN_len L A L.length; omega) t1 t2 HL3.out HN3.out)
  have HY9 := Lib.hid (show agreed L A h f u now ≤ 1000000000 by have := yesN_len L A L.length; have := cntN_le (agV h f u now) (yesN L A L.length) (yesN L A L.length).length; unfold agreed; omega)
  clear b3 hy HN2 HO2 HL2 HB2 hla2 haa2 HAN HRV
  go_wp2_with fail
  refine HCN.out.mono ?_
  rintro e w4 ⟨rfl, b4⟩
  have HO4 := Lib.hid (HO3.out.step b4)
  have HL4 := Lib.hid (HL3.out.step b4)
  have HB4 := Lib.hid (keep2 b4 HB3.out)
  have HRV4 := Lib.hid (HRV3.out.step b4)
  clear b4 HCN HN3 HO3 HL3 HB3 HRV3
  rw [show cntN (agV h f u now) (yesN L A L.length) (yesN L A L.length).length = agreed L A h f u now from rfl]
  go_wp2_with fail
  refine (isMajority_q _ _ _ HM.out HY9.out _).mono ?_
  rintro e w' ⟨rfl, rfl⟩
  clear HM HY9
  have HFIN := Lib.hid (((HRV4.out.other (b := w.heap.size + 1) (by omega) 0 (.int .i64 h)).other (b := w.heap.size + 1) (by omega) 1 (.int .i64 f)).other (b := w.heap.size + 1) (by omega) 2 (.int .i64 u))
  clear HRV4
  have hl0 := HL4.out.2.2
  have ho0 := HO4.out.2.2
  have x0 := HL4.out.c 0 rfl
  have x1 := HL4.out.c 1 rfl
  have x2 := HL4.out.c 2 rfl
  have k0 := HO4.out.c 0 rfl
  have k1 := HO4.out.c 1 rfl
  have k2 := HO4.out.c 2 rfl
  have z0 := HO4.out.f 0 (by simp)
  have z1 := HO4.out.f 1 (by simp)
  have z2 := HO4.out.f 2 (by simp)
  go_wp2_with fail
  go_region
  all_goals go_wp2
  all_goals exact bodyPost_ret (v := .tuple #[.slice (some ⟨w1.heap.size + 1, 0, none⟩) L.length 3, .agg #[.int .i64 h, .int .i64 f, .int .i64 u], .int .i64 0]) (by simp [results, Try.results7, go_sem, k0, k1, k2]) rfl (EPost.mk HFIN.out (by repeat (first | with_reducible exact HB4.out | with_reducible exact Below.refl _ _ | ((with_reducible refine Below.setCell ?_ ?_ _); rotate_left; focus (first | (simp; done) | (simp; omega) | omega)) | ((with_reducible refine Below.alloc ?_ ?_ _); rotate_left; focus (first | (simp; done) | (simp; omega) | omega)) | with_reducible refine Below.trans ?_ (below_drewN' _ _ _) | with_reducible refine Below.trans ?_ (below_drew _ _))))
theorem elect_any {L : List Vo} {A : List Bool} {hub now len : Int} {V : List Vo} {h f u er : Int} (hp : EW L A hub now len V h f u er) (v va : Value) (w : World) (hl : VosAt w v L) (ha : BosAt w va A) :
    Calls Try.prog 7 #[v, va, .int .i64 hub, .int .i64 now, .int .i64 len] w (EPost V h f u er w) := by
  cases hp with
  | no h0 f0 u0 _ h1 h2 => exact elect_no v va L A hub now len h0 f0 u0 er w hl ha h1 h2
  | few h f u h1 h2 => exact elect_few v va L A hub now len h f u w hl ha h1 h2
  | ok _ _ _ h1 h2 => exact elect_ok v va L A hub now len h f u w hl ha h1 h2
end Go.Proofs.Ytifnhfpdcbpjlaa
