/- Leases: 'Elect', with the place of its voters; the answers; a step of the attempts. -/
import Derived.Test.YtelohejnbfefoaaLj
namespace Go.Proofs.Ytelohejnbfefoaa
open Go.RowKit

/-- The block of a slice. -/
def blk : Value → Option Nat
  | .slice (some a) _ _ => some a.block
  | _ => none
def New (w : World) (r : Value) : Prop := ∀ b, blk r = some b → w.heap.size ≤ b
theorem new_nil (w : World) : New w (.slice none 0 0) := fun b h => by cases h
theorem new_at {w : World} {g n c : Nat} (h : w.heap.size ≤ g) : New w (.slice (some ⟨g, 0, none⟩) n c) := fun b hb => by
  simp only [blk, Option.some.injEq] at hb
  omega
def EPost2 (V : List Vo) (h f u er : Int) (w : World) (e : Ending) (w' : World) : Prop := ∃ r, e = .returned (.tuple #[r, .agg #[.int .i64 h, .int .i64 f, .int .i64 u], .int .i64 er]) ∧ VosAt w' r V ∧ New w r ∧ Below w.heap.size w w'
theorem EPost2.mk {V : List Vo} {h f u er : Int} {w w' : World} {r : Value} (hv : VosAt w' r V) (hq : New w r) (hb : Below w.heap.size w w') : EPost2 V h f u er w (.returned (.tuple #[r, .agg #[.int .i64 h, .int .i64 f, .int .i64 u], .int .i64 er])) w' := ⟨r, rfl, hv, hq, hb⟩
set_option maxRecDepth 100000 in
set_option maxHeartbeats 4000000 in
theorem elect_no2 (v va : Value) (L : List Vo) (A : List Bool) (hub now len h f u er : Int) (w : World) (hl : VosAt w v L) (ha : BosAt w va A) (hp : PW L A hub now len h f u er) (he : er ≠ 0) :
    Calls Try.prog 10 #[v, va, .int .i64 hub, .int .i64 now, .int .i64 len] w (EPost2 [] 0 0 0 er w) := by
  have hla := Lib.hid hl
  have haa := Lib.hid ha
  obtain ⟨a, cap, rfl, hm, -⟩ := hl
  obtain ⟨aa, capa, rfl, hma, -⟩ := ha
  unfold maxLen at hm hma
  have HN := Lib.hid ((Cs.new w w.heap.size #[.int .i64 now] 3 rfl).alloc (.cells #[.int .i64 0, .int .i64 0, .int .i64 0] 27))
  have HO := Lib.hid (Cs.new (w.alloc (.cells #[.int .i64 now] 3)) (w.heap.size + 1) #[.int .i64 0, .int .i64 0, .int .i64 0] 27 (by simp))
  have HB := Lib.hid (al2 (w := w) (o1 := .cells #[.int .i64 now] 3) (o2 := .cells #[.int .i64 0, .int .i64 0, .int .i64 0] 27))
  have HP := Lib.hid (propose_any hp (.slice a L.length cap) (.slice aa A.length capa) _ (hla.out.step (al2 (w := w) (o1 := .cells #[.int .i64 now] 3) (o2 := .cells #[.int .i64 0, .int .i64 0, .int .i64 0] 27))) (haa.out.step (al2 (w := w))))
  have q : (er != 0) = true := by simpa using he
  have q2 : (er == 0) = false := by simpa using he
  clear hp he
  go_enter Try.func10, Try.ntmps10
  go_wp2_with fail
  refine HP.out.mono ?_
  rintro e w1 ⟨rfl, b1⟩
  have HOw := Lib.hid (HO.out.step b1)
  have HBw := Lib.hid (keep2 b1 HB.out)
  have HN1 := Lib.hid ((HN.out.step b1).alloc (.cells #[.int .i64 h, .int .i64 f, .int .i64 u] 27))
  have HO1 := Lib.hid ((HO.out.step b1).alloc (.cells #[.int .i64 h, .int .i64 f, .int .i64 u] 27))
  have HL1 := Lib.hid (Cs.new w1 w1.heap.size #[.int .i64 h, .int .i64 f, .int .i64 u] 27 rfl)
  have HB1 := Lib.hid ((keep2 b1 HB.out).alloc (keep2 b1 HB.out).size (.cells #[.int .i64 h, .int .i64 f, .int .i64 u] 27))
  have hz0 : w.heap.size + 1 + 1 ≤ w1.heap.size := by have := b1.size; simpa using this
  clear b1
  have x0 := HOw.out.c 0 rfl
  have x1 := HOw.out.c 1 rfl
  have x2 := HOw.out.c 2 rfl
  have z0 := HOw.out.f 0 (by simp)
  have z1 := HOw.out.f 1 (by simp)
  have z2 := HOw.out.f 2 (by simp)
  have hz := HOw.out.2.2
  have hz1 : w.heap.size + 1 < w1.heap.size := by omega
  go_wp2
  exact bodyPost_ret (v := .tuple #[.slice none 0 0, .agg #[.int .i64 0, .int .i64 0, .int .i64 0], .int .i64 er]) (by simp [results, Try.results10, go_sem, x0, x1, x2, hz1]) rfl (EPost2.mk (vos_nil _) (new_nil _) (by repeat (first | with_reducible exact HBw.out | with_reducible exact Below.refl _ _ | ((with_reducible refine Below.setCell ?_ ?_ _); rotate_left; focus (first | (simp; done) | (simp; omega) | omega)) | ((with_reducible refine Below.alloc ?_ ?_ _); rotate_left; focus (first | (simp; done) | (simp; omega) | omega)) | with_reducible refine Below.trans ?_ (below_drewN' _ _ _) | with_reducible refine Below.trans ?_ (below_drew _ _))))
set_option maxRecDepth 100000 in
set_option maxHeartbeats 8000000 in
theorem elect_few2 (v va : Value) (L : List Vo) (A : List Bool) (hub now len h f u : Int) (w : World) (hl : VosAt w v L) (ha : BosAt w va A) (hp : PW L A hub now len h f u 0) (hg : ¬ L.length < 2 * agreed L A h f u now) :
    Calls Try.prog 10 #[v, va, .int .i64 hub, .int .i64 now, .int .i64 len] w (EPost2 (elL L A h f u now) 0 0 0 22 w) := by
  have hla := Lib.hid hl
  have haa := Lib.hid ha
  obtain ⟨a, cap, rfl, hm, -⟩ := hl
  obtain ⟨aa, capa, rfl, hma, -⟩ := ha
  unfold maxLen at hm hma
  have HN := Lib.hid ((Cs.new w w.heap.size #[.int .i64 now] 3 rfl).alloc (.cells #[.int .i64 0, .int .i64 0, .int .i64 0] 27))
  have HO := Lib.hid (Cs.new (w.alloc (.cells #[.int .i64 now] 3)) (w.heap.size + 1) #[.int .i64 0, .int .i64 0, .int .i64 0] 27 (by simp))
  have HB := Lib.hid (al2 (w := w) (o1 := .cells #[.int .i64 now] 3) (o2 := .cells #[.int .i64 0, .int .i64 0, .int .i64 0] 27))
  have HP := Lib.hid (propose_any hp (.slice a L.length cap) (.slice aa A.length capa) _ (hla.out.step (al2 (w := w) (o1 := .cells #[.int .i64 now] 3) (o2 := .cells #[.int .i64 0, .int .i64 0, .int .i64 0] 27))) (haa.out.step (al2 (w := w))))
  obtain ⟨c0, c1, -, c3, -⟩ := arg_all (pw_ok hp)
  obtain ⟨c2, c4⟩ := inr_iff.1 c0
  obtain ⟨t1, t2⟩ := tm_of c3
  have HAL := Lib.hid (show A.length = L.length by omega)
  have h2 : 2 ≤ L.length := by omega
  have h3 : L.length ≤ 3 := by omega
  have HM := Lib.hid (show decide (L.length < 2 * agreed L A h f u now) = false by simpa using hg)
  clear hp hg c0 c1 c2 c3 c4
  go_enter Try.func10, Try.ntmps10
  go_wp2_with fail
  refine HP.out.mono ?_
  rintro e w1 ⟨rfl, b1⟩
  have HOw := Lib.hid (HO.out.step b1)
  have HBw := Lib.hid (keep2 b1 HB.out)
  have HN1 := Lib.hid ((HN.out.step b1).alloc (.cells #[.int .i64 h, .int .i64 f, .int .i64 u] 27))
  have HO1 := Lib.hid ((HO.out.step b1).alloc (.cells #[.int .i64 h, .int .i64 f, .int .i64 u] 27))
  have HL1 := Lib.hid (Cs.new w1 w1.heap.size #[.int .i64 h, .int .i64 f, .int .i64 u] 27 rfl)
  have HB1 := Lib.hid ((keep2 b1 HB.out).alloc (keep2 b1 HB.out).size (.cells #[.int .i64 h, .int .i64 f, .int .i64 u] 27))
  have hz0 : w.heap.size + 1 + 1 ≤ w1.heap.size := by have := b1.size; simpa using this
  clear b1
  have x0 := HL1.out.c 0 rfl
  have x1 := HL1.out.c 1 rfl
  have x2 := HL1.out.c 2 rfl
  have n0 := HN1.out.c 0 rfl
  have hl0 := HL1.out.2.2
  have hn0 := HN1.out.2.2
  simp only [World.size_alloc] at hl0 hn0
  have hn1 : w.heap.size < w1.heap.size := by omega
  have hn2 : w.heap.size + 1 < w1.heap.size := by omega
  have hla1 := Lib.hid (hla.out.step HB1.out)
  have haa1 := Lib.hid (haa.out.step HB1.out)
  have HVD := Lib.hid (voted_any _ _ L A h f u now _ hla1.out haa1.out HAL.out h2 h3)
  go_wp2_with fail
  refine HVD.out.mono ?_
  rintro e w2 ⟨rfl, hr, b2⟩
  rw [show (w1.alloc (.cells #[.int .i64 h, .int .i64 f, .int .i64 u] 27)).heap.size = w1.heap.size + 1 by simp] at hr ⊢
  have HRV := Lib.hid hr
  clear hr HVD
  have HN2 := Lib.hid (HN1.out.step b2)
  have HO2 := Lib.hid (HO1.out.step b2)
  have HL2 := Lib.hid (HL1.out.step b2)
  have HB2 := Lib.hid (keep2 b2 HB1.out)
  have hla2 := Lib.hid (hla.out.step HB2.out)
  have haa2 := Lib.hid (haa.out.step HB2.out)
  have HAN := Lib.hid (answering_any _ _ L A w2 hla2.out haa2.out HAL.out (by omega))
  clear x0 x1 x2 n0 HN1 HO1 HL1 HB1 hla1 haa1 b2
  clear hl0 hn0 hn1 hn2
  go_wp2_with fail
  refine HAN.out.mono ?_
  rintro e w3 ⟨y, rfl, hy, b3⟩
  have HN3 := Lib.hid (HN2.out.step b3)
  have HO3 := Lib.hid (HO2.out.step b3)
  have HL3 := Lib.hid (HL2.out.step b3)
  have HB3 := Lib.hid (keep2 b3 HB2.out)
  have HRV3 := Lib.hid (HRV.out.step b3)
  have HCN := Lib.hid (count_any y (yesN L A L.length) h f u now w1.heap.size w.heap.size w3 hy (by have := yesN_len L A L.length; omega) t1 t2 HL3.out HN3.out)
  have HY9 := Lib.hid (show agreed L A h f u now ≤ 1000000000 by have := yesN_len L A L.length; have := cntN_le (agV h f u now) (yesN L A L.length) (yesN L A L.length).length; unfold agreed; omega)
  clear b3 hy HN2 HO2 HL2 HB2 hla2 haa2 HAN HRV
  go_wp2_with fail
  refine HCN.out.mono ?_
  rintro e w4 ⟨rfl, b4⟩
  have HO4 := Lib.hid (HO3.out.step b4)
  have HL4 := Lib.hid (HL3.out.step b4)
  have HB4 := Lib.hid (keep2 b4 HB3.out)
  have HRV4 := Lib.hid (HRV3.out.step b4)
  clear b4 HCN HN3 HO3 HL3 HB3 HRV3
  rw [show cntN (agV h f u now) (yesN L A L.length) (yesN L A L.length).length = agreed L A h f u now from rfl]
  go_wp2_with fail
  refine (isMajority_q _ _ _ HM.out HY9.out _).mono ?_
  rintro e w' ⟨rfl, rfl⟩
  clear HM HY9
  have HFIN := Lib.hid (((HRV4.out.other (b := w.heap.size + 1) (by omega) 0 (.int .i64 0)).other (b := w.heap.size + 1) (by omega) 1 (.int .i64 0)).other (b := w.heap.size + 1) (by omega) 2 (.int .i64 0))
  clear HRV4
  have hl0 := HL4.out.2.2
  have ho0 := HO4.out.2.2
  have x0 := HL4.out.c 0 rfl
  have x1 := HL4.out.c 1 rfl
  have x2 := HL4.out.c 2 rfl
  have k0 := HO4.out.c 0 rfl
  have k1 := HO4.out.c 1 rfl
  have k2 := HO4.out.c 2 rfl
  have z0 := HO4.out.f 0 (by simp)
  have z1 := HO4.out.f 1 (by simp)
  have z2 := HO4.out.f 2 (by simp)
  go_wp2
  all_goals exact bodyPost_ret (v := .tuple #[.slice (some ⟨w1.heap.size + 1, 0, none⟩) L.length 3, .agg #[.int .i64 0, .int .i64 0, .int .i64 0], .int .i64 22]) (by simp [results, Try.results10, go_sem, k0, k1, k2]) rfl (EPost2.mk HFIN.out (new_at (by omega)) (by repeat (first | with_reducible exact HB4.out | with_reducible exact Below.refl _ _ | ((with_reducible refine Below.setCell ?_ ?_ _); rotate_left; focus (first | (simp; done) | (simp; omega) | omega)) | ((with_reducible refine Below.alloc ?_ ?_ _); rotate_left; focus (first | (simp; done) | (simp; omega) | omega)) | with_reducible refine Below.trans ?_ (below_drewN' _ _ _) | with_reducible refine Below.trans ?_ (below_drew _ _))))
set_option maxRecDepth 100000 in
set_option maxHeartbeats 8000000 in
theorem elect_ok2 (v va : Value) (L : List Vo) (A : List Bool) (hub now len h f u : Int) (w : World) (hl : VosAt w v L) (ha : BosAt w va A) (hp : PW L A hub now len h f u 0) (hg : L.length < 2 * agreed L A h f u now) :
    Calls Try.prog 10 #[v, va, .int .i64 hub, .int .i64 now, .int .i64 len] w (EPost2 (elL L A h f u now) h f u 0 w) := by
  have hla := Lib.hid hl
  have haa := Lib.hid ha
  obtain ⟨a, cap, rfl, hm, -⟩ := hl
  obtain ⟨aa, capa, rfl, hma, -⟩ := ha
  unfold maxLen at hm hma
  have HN := Lib.hid ((Cs.new w w.heap.size #[.int .i64 now] 3 rfl).alloc (.cells #[.int .i64 0, .int .i64 0, .int .i64 0] 27))
  have HO := Lib.hid (Cs.new (w.alloc (.cells #[.int .i64 now] 3)) (w.heap.size + 1) #[.int .i64 0, .int .i64 0, .int .i64 0] 27 (by simp))
  have HB := Lib.hid (al2 (w := w) (o1 := .cells #[.int .i64 now] 3) (o2 := .cells #[.int .i64 0, .int .i64 0, .int .i64 0] 27))
  have HP := Lib.hid (propose_any hp (.slice a L.length cap) (.slice aa A.length capa) _ (hla.out.step (al2 (w := w) (o1 := .cells #[.int .i64 now] 3) (o2 := .cells #[.int .i64 0, .int .i64 0, .int .i64 0] 27))) (haa.out.step (al2 (w := w))))
  obtain ⟨c0, c1, -, c3, -⟩ := arg_all (pw_ok hp)
  obtain ⟨c2, c4⟩ := inr_iff.1 c0
  obtain ⟨t1, t2⟩ := tm_of c3
  have HAL := Lib.hid (show A.length = L.length by omega)
  have h2 : 2 ≤ L.length := by omega
  have h3 : L.length ≤ 3 := by omega
  have HM := Lib.hid (show decide (L.length < 2 * agreed L A h f u now) = true by simpa using hg)
  clear hp hg c0 c1 c2 c3 c4
  go_enter Try.func10, Try.ntmps10
  go_wp2_with fail
  refine HP.out.mono ?_
  rintro e w1 ⟨rfl, b1⟩
  have HOw := Lib.hid (HO.out.step b1)
  have HBw := Lib.hid (keep2 b1 HB.out)
  have HN1 := Lib.hid ((HN.out.step b1).alloc (.cells #[.int .i64 h, .int .i64 f, .int .i64 u] 27))
  have HO1 := Lib.hid ((HO.out.step b1).alloc (.cells #[.int .i64 h, .int .i64 f, .int .i64 u] 27))
  have HL1 := Lib.hid (Cs.new w1 w1.heap.size #[.int .i64 h, .int .i64 f, .int .i64 u] 27 rfl)
  have HB1 := Lib.hid ((keep2 b1 HB.out).alloc (keep2 b1 HB.out).size (.cells #[.int .i64 h, .int .i64 f, .int .i64 u] 27))
  have hz0 : w.heap.size + 1 + 1 ≤ w1.heap.size := by have := b1.size; simpa using this
  clear b1
  have x0 := HL1.out.c 0 rfl
  have x1 := HL1.out.c 1 rfl
  have x2 := HL1.out.c 2 rfl
  have n0 := HN1.out.c 0 rfl
  have hl0 := HL1.out.2.2
  have hn0 := HN1.out.2.2
  simp only [World.size_alloc] at hl0 hn0
  have hn1 : w.heap.size < w1.heap.size := by omega
  have hn2 : w.heap.size + 1 < w1.heap.size := by omega
  have hla1 := Lib.hid (hla.out.step HB1.out)
  have haa1 := Lib.hid (haa.out.step HB1.out)
  have HVD := Lib.hid (voted_any _ _ L A h f u now _ hla1.out haa1.out HAL.out h2 h3)
  go_wp2_with fail
  refine HVD.out.mono ?_
  rintro e w2 ⟨rfl, hr, b2⟩
  rw [show (w1.alloc (.cells #[.int .i64 h, .int .i64 f, .int .i64 u] 27)).heap.size = w1.heap.size + 1 by simp] at hr ⊢
  have HRV := Lib.hid hr
  clear hr HVD
  have HN2 := Lib.hid (HN1.out.step b2)
  have HO2 := Lib.hid (HO1.out.step b2)
  have HL2 := Lib.hid (HL1.out.step b2)
  have HB2 := Lib.hid (keep2 b2 HB1.out)
  have hla2 := Lib.hid (hla.out.step HB2.out)
  have haa2 := Lib.hid (haa.out.step HB2.out)
  have HAN := Lib.hid (answering_any _ _ L A w2 hla2.out haa2.out HAL.out (by omega))
  clear x0 x1 x2 n0 HN1 HO1 HL1 HB1 hla1 haa1 b2
  clear hl0 hn0 hn1 hn2
  go_wp2_with fail
  refine HAN.out.mono ?_
  rintro e w3 ⟨y, rfl, hy, b3⟩
  have HN3 := Lib.hid (HN2.out.step b3)
  have HO3 := Lib.hid (HO2.out.step b3)
  have HL3 := Lib.hid (HL2.out.step b3)
  have HB3 := Lib.hid (keep2 b3 HB2.out)
  have HRV3 := Lib.hid (HRV.out.step b3)
  have HCN := Lib.hid (count_any y (yesN L A L.length) h f u now w1.heap.size w.heap.size w3 hy (by have := yesN_len L A L.length; omega) t1 t2 HL3.out HN3.out)
  have HY9 := Lib.hid (show agreed L A h f u now ≤ 1000000000 by have := yesN_len L A L.length; have := cntN_le (agV h f u now) (yesN L A L.length) (yesN L A L.length).length; unfold agreed; omega)
  clear b3 hy HN2 HO2 HL2 HB2 hla2 haa2 HAN HRV
  go_wp2_with fail
  refine HCN.out.mono ?_
  rintro e w4 ⟨rfl, b4⟩
  have HO4 := Lib.hid (HO3.out.step b4)
  have HL4 := Lib.hid (HL3.out.step b4)
  have HB4 := Lib.hid (keep2 b4 HB3.out)
  have HRV4 := Lib.hid (HRV3.out.step b4)
  clear b4 HCN HN3 HO3 HL3 HB3 HRV3
  rw [show cntN (agV h f u now) (yesN L A L.length) (yesN L A L.length).length = agreed L A h f u now from rfl]
  go_wp2_with fail
  refine (isMajority_q _ _ _ HM.out HY9.out _).mono ?_
  rintro e w' ⟨rfl, rfl⟩
  clear HM HY9
  have HFIN := Lib.hid (((HRV4.out.other (b := w.heap.size + 1) (by omega) 0 (.int .i64 h)).other (b := w.heap.size + 1) (by omega) 1 (.int .i64 f)).other (b := w.heap.size + 1) (by omega) 2 (.int .i64 u))
  clear HRV4
  have hl0 := HL4.out.2.2
  have ho0 := HO4.out.2.2
  have x0 := HL4.out.c 0 rfl
  have x1 := HL4.out.c 1 rfl
  have x2 := HL4.out.c 2 rfl
  have k0 := HO4.out.c 0 rfl
  have k1 := HO4.out.c 1 rfl
  have k2 := HO4.out.c 2 rfl
  have z0 := HO4.out.f 0 (by simp)
  have z1 := HO4.out.f 1 (by simp)
  have z2 := HO4.out.f 2 (by simp)
  go_wp2_with fail
  go_region
  all_goals go_wp2
  all_goals exact bodyPost_ret (v := .tuple #[.slice (some ⟨w1.heap.size + 1, 0, none⟩) L.length 3, .agg #[.int .i64 h, .int .i64 f, .int .i64 u], .int .i64 0]) (by simp [results, Try.results10, go_sem, k0, k1, k2]) rfl (EPost2.mk HFIN.out (new_at (by omega)) (by repeat (first | with_reducible exact HB4.out | with_reducible exact Below.refl _ _ | ((with_reducible refine Below.setCell ?_ ?_ _); rotate_left; focus (first | (simp; done) | (simp; omega) | omega)) | ((with_reducible refine Below.alloc ?_ ?_ _); rotate_left; focus (first | (simp; done) | (simp; omega) | omega)) | with_reducible refine Below.trans ?_ (below_drewN' _ _ _) | with_reducible refine Below.trans ?_ (below_drew _ _))))
theorem elect_any2 {L : List Vo} {A : List Bool} {hub now len : Int} {V : List Vo} {h f u er : Int} (hp : EW L A hub now len V h f u er) (v va : Value) (w : World) (hl : VosAt w v L) (ha : BosAt w va A) :
    Calls Try.prog 10 #[v, va, .int .i64 hub, .int .i64 now, .int .i64 len] w (EPost2 V h f u er w) := by
  cases hp with
  | no h0 f0 u0 _ h1 h2 => exact elect_no2 v va L A hub now len h0 f0 u0 er w hl ha h1 h2
  | few h f u h1 h2 => exact elect_few2 v va L A hub now len h f u w hl ha h1 h2
  | ok _ _ _ h1 h2 => exact elect_ok2 v va L A hub now len h f u w hl ha h1 h2
theorem Elc.later {n : Nat} {L : List Vo} {A : List Bool} {hub now ln F : Int} (E : Elc n L A hub now ln F) : Elc n L A hub now ln F := E
theorem vos_lt {w : World} {v : Value} {l : List Vo} (h : VosAt w v l) (hl : l ≠ []) : ∀ b, blk v = some b → b < w.heap.size := by
  intro b hb
  obtain ⟨a, cap, rfl, -, hc⟩ := h
  obtain ⟨b2, off, rfl, hx⟩ := hc hl
  simp only [blk, Option.some.injEq] at hb
  subst hb
  have hpos : 0 < l.length := by
    apply Classical.byContradiction; intro h0
    exact hl (List.eq_nil_of_length_eq_zero (by omega))
  have hlt := World.block_lt_of_cell? _ _ (hx 0 _ (vo_get hpos)).1
  exact hlt
theorem VosAt.apart {w : World} {v : Value} {l : List Vo} {b : Nat} (h : VosAt w v l) (hne : l ≠ [] → ∀ g, blk v = some g → g ≠ b) (j : Nat) (x : Value) : VosAt (w.setCell ⟨b, j, none⟩ x) v l := by
  obtain ⟨a, cap, hv, hm, hc⟩ := h
  refine ⟨a, cap, hv, hm, fun hl => ?_⟩
  obtain ⟨b2, off, ha, hx⟩ := hc hl
  have hk : ∀ i, (w.setCell ⟨b, j, none⟩ x).cell? ⟨b2, i, none⟩ = w.cell? ⟨b2, i, none⟩ := fun i => World.cell?_of_block (a := ⟨b2, i, none⟩) (Below.heap_setCell w ⟨b, j, none⟩ x b2 (hne hl b2 (by rw [hv, ha]; rfl)))
  exact ⟨b2, off, ha, fun i x hi => by rw [hk, hk, hk]; exact hx i x hi⟩
/-- One more attempt does not lower the bound of attempts. -/
theorem Inv.vote' {n k : Nat} {L : List Vo} {A : List Bool} {G : List Go1} {t d hub ln F : Int} (I : Inv n k L G t) (E : Elc n L A hub (t + d) ln F) (d1 : 0 ≤ d) (d2 : d ≤ 65535) (l1 : 1 ≤ ln) (l2 : ln ≤ 65536) (hF : F ≤ k + 1) : Inv n (k + 1) (elL L A hub F (t + d + ln) (t + d)) G (t + d) := by
  have J : Inv n (k + 1) (elL L A hub F (t + d + ln) (t + d)) G (t + d) := by
    have K := (I.wait d1 d2).vote1 E l1 l2 (by omega)
    exact K
  exact J
theorem Inv.got' {n k : Nat} {L : List Vo} {A : List Bool} {G : List Go1} {t d hub ln F : Int} (I : Inv n k L G t) (E : Elc n L A hub (t + d) ln F) (d1 : 0 ≤ d) (d2 : d ≤ 65535) (l1 : 1 ≤ ln) (l2 : ln ≤ 65536) (hF : F ≤ k + 1) (hh : 0 ≤ hub ∧ hub < n)
    (hag : n < 2 * sN (agV hub F (t + d + ln) (t + d)) L A n) : Inv n (k + 1) (elL L A hub F (t + d + ln) (t + d)) (G ++ [⟨hub, F, t + d + ln, t + d⟩]) (t + d) :=
  (I.wait d1 d2).got1 E l1 l2 (by omega) hh hag
/-- One attempt, as numbers. -/
inductive Stp (n k : Nat) (L : List Vo) (G : List Go1) (now : Int) (V : List Vo) (h f u er : Int) : Prop
  | none : er = 22 → V = [] → Inv n (k + 1) L G now → Stp n k L G now V h f u er
  | vote : er = 22 → V.length = n → Inv n (k + 1) V G now → Stp n k L G now V h f u er
  | got : er = 0 → V.length = n → Inv n (k + 1) V (G ++ [⟨h, f, u, now⟩]) now → Stp n k L G now V h f u er
theorem step_of {n k : Nat} {L : List Vo} {G : List Go1} {A : List Bool} {now d hub ln : Int} {V : List Vo} {h f u er : Int} (I : Inv n k L G now) (h2 : 2 ≤ n) (h3 : n ≤ 3) (hA : A.length = n) (d1 : 0 ≤ d) (d2 : d ≤ 65535) (hh : 0 ≤ hub ∧ hub < n) (l1 : 1 ≤ ln) (l2 : ln ≤ 65536) (hk : k ≤ 100)
    (hE : EW L A hub (now + d) ln V h f u er) : Stp n k L G (now + d) V h f u er := by
  have hlen := I.len
  have J := I.wait d1 d2
  have htm : tmB (now + d) = true := inr_iff.2 ⟨by have := I.tim; omega, by have := I.tim; omega⟩
  have harg : argB L.length A.length hub (now + d) ln = true := by
    unfold argB
    rw [htm, hA, hlen, inr_iff.2 ⟨show (2 : Int) ≤ n by omega, show (n : Int) ≤ 3 by omega⟩, inr_iff.2 ⟨hh.1, show hub ≤ (n : Int) - 1 by omega⟩, inr_iff.2 ⟨l1, by omega⟩]
    simp
  have hY : ∀ j, j < (yesN L A L.length).length → 0 ≤ ((yesN L A L.length).getD j zV).f ∧ ((yesN L A L.length).getD j zV).f ≤ k := fun j hj => by
    obtain ⟨i, hi, -, e⟩ := yes_mem _ _ (getD_mem hj)
    rw [← e]
    have := I.vo i (by omega)
    omega
  have hpw : ∀ (h f u : Int), PW L A hub (now + d) ln h f u 0 → h = hub ∧ u = now + d + ln ∧ f ≤ k + 1 ∧ Elc n L A hub (now + d) ln f := by
    intro h f u hp
    cases hp with
    | ok _ q1 q2 q3 q4 =>
      have hpos : 0 < (yesN L A L.length).length := by omega
      have g1 := gN_low (yesN L A L.length) 0 (hY 0 hpos).1 (yesN L A L.length).length
      have g2 := gN_le (yesN L A L.length) k (hY 0 hpos).2 (yesN L A L.length).length (fun j hj => (hY j hj).2)
      have hF : f = gN (yesN L A L.length) (yesN L A L.length).length + 1 := by
        rw [← q4]; exact IntWalk.i64_in _ (by omega)
      refine ⟨rfl, rfl, by omega, htm, by rw [← yesN_trN L A, ← hlen]; exact q2, fun j hj hAj => ?_⟩
      obtain ⟨i, hi, e⟩ := mem_getD (mem_yes (L := L) L.length j (by omega) hAj)
      have := gN_ge (yesN L A L.length) (yesN L A L.length).length i hi
      rw [e] at this
      omega
  cases hE with
  | no h0 f0 u0 _ hp he =>
    cases hp with
    | arg q => rw [harg] at q; cases q
    | few q1 q2 => exact .none rfl rfl J
    | lim q1 q2 q3 =>
      have hpos : 0 < (yesN L A L.length).length := by omega
      have g2 := gN_le (yesN L A L.length) k (hY 0 hpos).2 (yesN L A L.length).length (fun j hj => (hY j hj).2)
      omega
    | ok _ => exact absurd rfl he
  | few h1 f1 u1 hp hq =>
    obtain ⟨rfl, rfl, hF, E⟩ := hpw _ _ _ hp
    exact .vote rfl (by simp [elL, hlen]) (by have := I.wait d1 d2; exact Inv.vote' I E d1 d2 l1 l2 hF)
  | ok h1 f1 u1 hp hq =>
    obtain ⟨rfl, rfl, hF, E⟩ := hpw _ _ _ hp
    rw [agreed_sN, hlen] at hq
    exact .got rfl (by simp [elL, hlen]) (Inv.got' I E d1 d2 l1 l2 hF hh hq)
theorem info4 : (Try.prog.info? 4).map (fun i => (i.zero, i.size, i.bytes)) = some (some (.bool false), 1, 1) := by kernel_rfl
theorem bos_of_row {w : World} {base n : Nat} {v : Value} {xs : List Bool} (hn : n = xs.length) (h : w.ownsRow base 4 1 v n (xs.map Value.bool)) : BosAt w v xs := by
  subst hn
  rcases h.2 with ⟨rfl, hn⟩ | ⟨g, cap, cur, rfl, hbg, hg, hnc, hcm, hcur, htake⟩
  · have : xs = [] := by simpa using hn
    subst this
    exact bos_nil _
  · have hc := h.cells (g := g) rfl
    refine ⟨_, cap, rfl, by omega, fun _ => ⟨g, 0, rfl, fun i x hi => ?_⟩⟩
    have := hc i (.bool x) (by rw [List.getElem?_map, hi]; rfl)
    rwa [Go.WideShapes.add_plain] at this
def AnsPost (n : Nat) (w : World) (e : Ending) (w' : World) : Prop := ∃ (r : Value) (A : List Bool), e = .returned r ∧ BosAt w' r A ∧ A.length = n ∧ Below w.heap.size w w'
set_option maxRecDepth 100000 in
set_option maxHeartbeats 4000000 in
theorem answers_any (x : Int) (n : Nat) (w : World) (_h1 : 0 ≤ x) (_h2 : x ≤ 255) (h3 : n ≤ 3) : Calls Try.prog 20 #[.int .u8 x, .int .i64 n] w (AnsPost n w) := by
  obtain ⟨i0, hi, hz0, hz1, hz2⟩ := info_parts info4
  go_enter Try.func20, Try.ntmps20
  go_wp2_with fail
  go_loopw [5, 6] (fun v i wr => ∃ (k : Nat) (A : List Bool), k ≤ n ∧ i = .int .i64 k ∧ A.length = k ∧ Hid (wr.ownsRow w.heap.size 4 1 v k (A.map Value.bool)) ∧ Hid (Below w.heap.size w wr)) (fun _ i _ => n - (intOf i).toNat)
  case atStart => exact ⟨0, [], by omega, rfl, rfl, World.ownsRow_nil _ _ _ _, Below.refl _ _⟩
  case round =>
    obtain ⟨k, A, hk, rfl, hA, HR, HB⟩ := hrel
    have HA := Lib.hid hA
    clear hA
    have hsz := HB.out.size
    by_cases hlt : k < n
    · go_wp2_with (at_builtin; refine wpList_append_own _ rfl _ _ 23 rfl w.heap.size 4 i0 _ 1 1 Try.underlying23 hi hz0 hz1 hz2 rfl (by decide) _ _ _ rfl (HR.out.alloc _) ⟨wr.heap.size, 0, none⟩ 1 1 [.bool _] rfl rfl (cell_one_new _ _ _) (by simp [Value.oneCell']) (by unfold maxLen; omega) (by omega) (by simp; omega) ?_; intro v' w1 hown hgrow _; have HR2 := Lib.hid hown; have HB2 := Lib.hid (below_own (Nat.le_refl _) HB.out HR.out hgrow); clear hown hgrow)
      go_roundw
      case rel => exact ⟨k + 1, A ++ [_], by omega, by go_num, by rw [List.length_append, HA.out]; rfl, by rw [List.map_append]; exact HR2, HB2⟩
      case measure => simp [intOf]; omega
    · obtain rfl : k = n := by omega
      have HQ := Lib.hid (bos_of_row HA.out.symm HR.out)
      go_wp2
      go_ret
      exact ⟨_, A, rfl, HQ.out, HA.out, HB.out⟩
end Go.Proofs.Ytelohejnbfefoaa
