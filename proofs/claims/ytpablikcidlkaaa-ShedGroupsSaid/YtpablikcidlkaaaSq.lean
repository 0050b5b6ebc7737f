/- Shedding: the law of quiet. -/
import Derived.Test.YtpablikcidlkaaaSp
namespace Go.Proofs.Ytpablikcidlkaaa
open Go.RowKit

theorem fold_get (l : List (Int × Int)) (lim : Nat → Int) (x : Nat) : ∀ (post : List Nat) (st : Int × List Bool), x ∉ post → (post.foldl (kst l lim) st).2.getD x false = st.2.getD x false
  | [], st, _ => rfl
  | y :: post, st, h => by
    rw [List.foldl_cons, fold_get l lim x post _ (fun hx => h (by simp [hx]))]
    unfold kst
    split
    · have hne : y ≠ x := fun e => h (by simp [e])
      simp only [List.getD_eq_getElem?_getD]
      rw [List.getElem?_set_ne hne]
    · rfl
theorem kfo_get (l : List (Int × Int)) (lim : Nat → Int) (x : Nat) (pre post : List Nat) (hx : x < l.length) (h1 : x ∉ pre) (h2 : x ∉ post) :
    (kfo l lim (pre ++ x :: post)).2.getD x false = decide ((kfo l lim pre).1 + pow l x ≤ lim x) := by
  have e : kfo l lim (pre ++ x :: post) = post.foldl (kst l lim) (kst l lim (kfo l lim pre) x) := by simp [kfo]
  have h0 : (kfo l lim pre).2.getD x false = false := by
    unfold kfo
    rw [fold_get l lim x pre _ h1]
    simp [List.getD_eq_getElem?_getD, hx]
  rw [e, fold_get l lim x post _ h2]
  have hl := kfo_len l lim pre
  obtain ⟨st, hst⟩ : ∃ st, kfo l lim pre = st := ⟨_, rfl⟩
  rw [hst] at h0 hl ⊢
  unfold kst
  split
  · rename_i hc
    rw [decide_eq_true hc]
    simp [List.getD_eq_getElem?_getD, hl, hx]
  · rename_i hc
    rw [decide_eq_false hc]
    exact h0
/-- Step's answer, given to Step, is Step's answer. -/
theorem quiet_is (l : List (Int × Int)) (bf : List Bool) (x M : Int) (hM : 0 ≤ M) : kpL l (lim2 (kpL l (lim2 bf x M)) x M) = kpL l (lim2 bf x M) := by
  obtain ⟨K, hK⟩ : ∃ K, kpL l (lim2 bf x M) = K := ⟨_, rfl⟩
  have hs := ord_is (pri l) l.length
  have hnd := hs.2.nodup
  suffices h : ∀ post pre, ordL (pri l) l.length = pre ++ post → kfo l (lim2 K x M) pre = kfo l (lim2 bf x M) pre → kfo l (lim2 K x M) (pre ++ post) = kfo l (lim2 bf x M) (pre ++ post) by
    have := h (ordL (pri l) l.length) [] rfl rfl
    rw [hK]
    rw [List.nil_append] at this
    unfold kpL at hK ⊢
    rw [this]
    exact hK
  intro post
  induction post with
  | nil => intro pre _ h; simpa using h
  | cons y post ih =>
    intro pre he h
    have hy : y < l.length := (hs.mem (x := y) (by rw [he]; simp)).2
    rw [he] at hnd
    have hn1 : y ∉ pre := fun hm => (List.nodup_append.1 hnd).2.2 y hm y (by simp) rfl
    have hn2 : y ∉ post := (List.nodup_cons.1 (List.nodup_append.1 hnd).2.1).1
    have hg : K.getD y false = decide ((kfo l (lim2 bf x M) pre).1 + pow l y ≤ lim2 bf x M y) := by
      rw [← hK]
      unfold kpL
      rw [he]
      exact kfo_get l _ y pre post hy hn1 hn2
    have hstep : kfo l (lim2 K x M) (pre ++ [y]) = kfo l (lim2 bf x M) (pre ++ [y]) := by
      rw [kfo_snoc, kfo_snoc, h]
      unfold kst
      have hl : lim2 K x M y = if (kfo l (lim2 bf x M) pre).1 + pow l y ≤ lim2 bf x M y then x else x - M := by
        show (if K.getD y false = true then x else x - M) = _
        rw [hg]
        simp
      rw [hl]
      have hb : lim2 bf x M y = x ∨ lim2 bf x M y = x - M := by unfold lim2; split <;> simp
      by_cases hc : (kfo l (lim2 bf x M) pre).1 + pow l y ≤ lim2 bf x M y
      · rw [if_pos hc, if_pos hc, if_pos (by omega)]
      · rw [if_neg hc, if_neg hc, if_neg (by omega)]
    have e : pre ++ y :: post = (pre ++ [y]) ++ post := by simp
    rw [e]
    exact ih (pre ++ [y]) (by rw [he]; simp) hstep
theorem fine_parts {l : List (Int × Int)} {x : Int} (h : fineB l x = true) : l.length ≤ 60 ∧ acB l = true ∧ wiB x 1000000000 = true := by
  unfold fineB at h
  simp only [Bool.and_eq_true, decide_eq_true_eq] at h
  exact ⟨h.1.1.1, h.1.1.2, wiB_iff.2 ⟨h.1.2, h.2⟩⟩
theorem fine_q (v : Value) (l : List (Int × Int)) (x : Int) (w : World) (h : ConsAt w v l) (b : Bool) (hb : fineB l x = b) : Calls Try.prog 16 #[v, .int .i64 x] w fun e w' => e = .returned (.bool b) ∧ Below w.heap.size w w' := by
  subst hb; exact fine_any v l x w h
set_option maxRecDepth 100000 in
set_option maxHeartbeats 8000000 in
theorem quiet_any (v vb : Value) (l : List (Int × Int)) (bf : List Bool) (x m : Int) (w : World) (h : ConsAt w v l) (hbf : BosAt w vb bf) (hm0 : 0 ≤ m) (hm1 : m ≤ 4294967295) :
    Calls Try.prog 8 #[v, vb, .int .i64 x, .int .u32 m] w fun e w' => e = .returned (.bool true) ∧ Below w.heap.size w w' := by
  have HL := Lib.hid h
  have HBF := Lib.hid hbf
  obtain ⟨va, vc, rfl, hml⟩ : ∃ a c, v = .slice a l.length c ∧ l.length ≤ maxLen := (by obtain ⟨a, c, e, _, hm, -⟩ := h; exact ⟨a, c, e, hm⟩)
  obtain ⟨ba, bc, rfl, hbl⟩ : ∃ a c, vb = .slice a bf.length c ∧ bf.length ≤ maxLen := (by obtain ⟨a, c, e, _, h, -⟩ := hbf; exact ⟨a, c, e, h⟩)
  unfold maxLen at hml hbl
  clear h hbf
  obtain ⟨M, hM⟩ : ∃ M, m.tmod 1000000001 = M := ⟨_, rfl⟩
  have hM0 : 0 ≤ M := by rw [← hM, Int.tmod_eq_emod_of_nonneg hm0]; omega
  have hM1 : M ≤ 1000000000 := by rw [← hM, Int.tmod_eq_emod_of_nonneg hm0]; omega
  cases hf : fineB l x
  · have HF := Lib.hid hf
    clear hf hM
    go_enter Try.func8, Try.ntmps8
    go_wp2_with fail
    refine (head_any _).mono ?_
    rintro e w1 ⟨rfl, b⟩
    replace HL := Lib.hid (HL.out.step b)
    have HB := Lib.hid b
    clear b
    go_wp2_with fail
    refine (fine_q _ l x _ HL.out _ HF.out).mono ?_
    rintro e w2 ⟨rfl, b⟩
    replace HB := Lib.hid (keep2 b HB.out)
    clear b
    go_wp2
    go_ret
    exact ⟨by simp, HB.out⟩
  · have HF := Lib.hid hf
    by_cases hn : bf.length = l.length
    · have g1 : ((bf.length : Int) != (l.length : Int)) = false := by simp; omega
      obtain ⟨f1, f2, f3⟩ := fine_parts hf
      have HS1 := Lib.hid (show stB l bf x M = true by unfold stB; rw [f2, f3, wiB_iff.2 ⟨hM0, hM1⟩]; simp [hn])
      have HS2 := Lib.hid (show stB l (kpL l (lim2 bf x M)) x M = true by unfold stB; rw [f2, f3, wiB_iff.2 ⟨hM0, hM1⟩, kp_len]; simp)
      have HQ := Lib.hid (quiet_is l bf x M hM0)
      clear hf f1 f2 f3
      replace hn := Lib.hid hn
      go_enter Try.func8, Try.ntmps8
      go_wp2_with fail
      refine (head_any _).mono ?_
      rintro e w1 ⟨rfl, b⟩
      replace HL := Lib.hid (HL.out.step b)
      replace HBF := Lib.hid (HBF.out.step b)
      have HB := Lib.hid b
      clear b
      go_wp2_with fail
      refine (fine_q _ l x _ HL.out _ HF.out).mono ?_
      rintro e w2 ⟨rfl, b⟩
      replace HL := Lib.hid (HL.out.step b)
      replace HBF := Lib.hid (HBF.out.step b)
      replace HB := Lib.hid (keep2 b HB.out)
      clear b
      go_wp2_with fail
      refine (step_e _ _ l bf x M _ HL.out HBF.out true (kpL l (lim2 bf x M)) HS1.out rfl).mono ?_
      rintro e w3 ⟨u3, rfl, r, b⟩
      replace HL := Lib.hid (HL.out.step b)
      replace HB := Lib.hid (keep2 b HB.out)
      have HR3 := Lib.hid r
      clear b r
      go_wp2_with fail
      refine (step_e _ _ l (kpL l (lim2 bf x M)) x M _ HL.out HR3.out true (kpL l (lim2 bf x M)) HS2.out HQ.out).mono ?_
      rintro e w4 ⟨u4, rfl, r, b⟩
      replace HB := Lib.hid (keep2 b HB.out)
      replace HR3 := Lib.hid (HR3.out.step b)
      have HR4 := Lib.hid r
      clear b r
      go_wp2_with fail
      refine (same_e _ _ _ _ _ HR3.out HR4.out true (by simp)).mono ?_
      rintro e w5 ⟨rfl, b⟩
      replace HB := Lib.hid (keep2 b HB.out)
      clear b
      go_wp2
      go_ret
      exact ⟨by simp, HB.out⟩
    · have g1 : ((bf.length : Int) != (l.length : Int)) = true := by simp; omega
      have g2 : ((bf.length : Int) = (l.length : Int)) = False := by simp; omega
      clear hf hM
      replace hn := Lib.hid hn
      go_enter Try.func8, Try.ntmps8
      go_wp2_with fail
      refine (head_any _).mono ?_
      rintro e w1 ⟨rfl, b⟩
      replace HL := Lib.hid (HL.out.step b)
      have HB := Lib.hid b
      clear b
      go_wp2_with fail
      refine (fine_q _ l x _ HL.out _ HF.out).mono ?_
      rintro e w2 ⟨rfl, b⟩
      replace HB := Lib.hid (keep2 b HB.out)
      clear b
      go_wp2
      go_ret
      exact ⟨by simp, HB.out⟩
theorem quiet_law (v : Value) (l : List (Int × Int)) (vb : Value) (bf : List Bool) (x m : Int) (w : World) (h : ConsAt w v l) (hbf : BosAt w vb bf) (hm0 : 0 ≤ m) (hm1 : m ≤ 4294967295) :
    Calls Try.prog 8 #[v, vb, .int .i64 x, .int .u32 m] w fun e w' => e = .returned (.bool true) ∧ Below w.heap.size w w' := quiet_any v vb l bf x m w h hbf hm0 hm1
end Go.Proofs.Ytpablikcidlkaaa
