import Derived.Test.YteodafhgfcbdpaaTg
import Derived.Test.YteodafhgfcbdpaaTh
import Derived.Test.YteodafhgfcbdpaaUl
import Derived.Test.YteodafhgfcbdpaaUm
namespace Go.Proofs.Yteodafhgfcbdpaa
open Go.RowKit

theorem fmOK_cons {a : Bool} {fs : List Bool} {p : List Int} (h : fmOK (a :: fs) p = true) : ∃ x q, p = x :: q ∧ chkB a x = true ∧ fmOK fs q = true := by
  unfold fmOK at h
  rw [Bool.and_eq_true, decide_eq_true_eq, List.all_eq_true] at h
  obtain ⟨h1, h2⟩ := h
  cases p with
  | nil => simp at h1
  | cons x q =>
    refine ⟨x, q, rfl, by simpa using h2 0 (List.mem_range.2 (by simp)), ?_⟩
    unfold fmOK
    rw [Bool.and_eq_true, decide_eq_true_eq, List.all_eq_true]
    refine ⟨by simpa using h1, fun j hj => ?_⟩
    have := h2 (j + 1) (List.mem_range.2 (by simp; have := List.mem_range.1 hj; omega))
    simpa using this
theorem fmOK_nil {p : List Int} (h : fmOK [] p = true) : p = [] := by
  cases p with
  | nil => rfl
  | cons x q => simp [fmOK] at h
theorem stN_mem {s : St} {x : Int} {y : List Int} (h : y ∈ s.L) : y ∈ (stN s x).L := by
  unfold stN
  split
  · exact h
  · split <;> simp [h]
theorem fold_mem : ∀ (p : List Int) (s : St) {y : List Int}, y ∈ s.L → y ∈ (p.foldl stN s).L
  | [], _, _, h => h
  | x :: p, s, _, h => fold_mem p (stN s x) (stN_mem h)
theorem prs_mem : ∀ (j : Nat) (row : List Int), 2 * j + 1 < row.length → [1, row.getD (2 * j) 0, row.getD (2 * j + 1) 0] ∈ prs row
  | 0, row, h => by
    match row, h with
    | x :: y :: r, _ => simp [prs]
  | j + 1, row, h => by
    match row, h with
    | x :: y :: r, h =>
      have := prs_mem j r (by simp at h; omega)
      have e : 2 * (j + 1) = 2 * j + 1 + 1 := by omega
      rw [e, List.getD_cons_succ, List.getD_cons_succ, List.getD_cons_succ, List.getD_cons_succ]
      exact List.mem_cons_of_mem _ this
theorem chk_alone {x : Int} (h : chkB true x = true) : x = -1 := by
  unfold chkB at h
  simp at h
  exact h
theorem chk_other {x : Int} (h : chkB false x = true) : x ≠ -1 := by
  unfold chkB at h
  simp at h
  exact h.1
theorem climb_idx {T : List (List Int)} : ∀ (f : Nat) (row : List Int) (i : Nat) (p : List Int) (s : St), row.length ≤ f → i < row.length → s.i = i → fmOK (fmF f i row.length) p = true → (p.foldl stN s).h = rtT row → (∀ y ∈ allP (rowsT row), y ∈ T) → s.h = row.getD i 0 ∨ Cld ((p.foldl stN s).L ++ T)
  | 0, row, i, _, _, h, hi, _, _, _, _ => by omega
  | f + 1, row, i, p, s, h, hi, hs, hf, hr, hT => by
    by_cases g : 1 < row.length
    · rw [fmF_step g h] at hf
      obtain ⟨x, q, rfl, hx, hq⟩ := fmOK_cons hf
      rw [rowsT_more g] at hT
      rw [rtT_up g] at hr
      have hl := upR_len row
      rw [Nat.add_sub_cancel, ← hl] at hq
      have IH := climb_idx f (upR row) (i / 2) q (stN s x) (by omega) (by omega) (by rw [stN_i, hs]; omega) hq hr (fun y hy => hT y (by simp [allP, hy]))
      rcases IH with e | c
      · rw [upR_get (i / 2) row (by omega)] at e
        by_cases a : i = row.length - 1 ∧ row.length % 2 = 1
        · rw [decide_eq_true a.1, decide_eq_true a.2] at hx
          have hx1 := chk_alone hx
          subst hx1
          rw [if_neg (by omega)] at e
          left
          rw [show i = 2 * (i / 2) by omega]
          exact e
        · have hb : (decide (i = row.length - 1) && decide (row.length % 2 = 1)) = false := by
            cases q1 : (decide (i = row.length - 1) && decide (row.length % 2 = 1))
            · rfl
            · rw [Bool.and_eq_true, decide_eq_true_eq, decide_eq_true_eq] at q1
              exact absurd q1 a
          rw [hb] at hx
          have hx1 := chk_other hx
          have hj : 2 * (i / 2) + 1 < row.length := by omega
          rw [if_pos hj] at e
          have m2 : [1, row.getD (2 * (i / 2)) 0, row.getD (2 * (i / 2) + 1) 0] ∈ T := hT _ (List.mem_append.2 (.inl (prs_mem _ row hj)))
          by_cases o : i % 2 = 1
          · have hL : [1, x, s.h] ∈ (stN s x).L := by
              unfold stN
              rw [if_neg hx1, if_pos (by rw [hs]; omega)]
              simp
            have hh : (stN s x).h = nd x s.h := by
              unfold stN
              rw [if_neg hx1, if_pos (by rw [hs]; omega)]
            rw [hh] at e
            by_cases d : [1, x, s.h] = [1, row.getD (2 * (i / 2)) 0, row.getD (2 * (i / 2) + 1) 0]
            · left
              simp only [List.cons.injEq, true_and, and_true] at d
              rw [d.2]
              congr 1
              omega
            · right
              exact cld_mem (List.mem_append.2 (.inl (fold_mem q _ hL))) (List.mem_append.2 (.inr m2)) d e
          · have hL : [1, s.h, x] ∈ (stN s x).L := by
              unfold stN
              rw [if_neg hx1, if_neg (by rw [hs]; omega)]
              simp
            have hh : (stN s x).h = nd s.h x := by
              unfold stN
              rw [if_neg hx1, if_neg (by rw [hs]; omega)]
            rw [hh] at e
            by_cases d : [1, s.h, x] = [1, row.getD (2 * (i / 2)) 0, row.getD (2 * (i / 2) + 1) 0]
            · left
              simp only [List.cons.injEq, true_and, and_true] at d
              rw [d.1]
              congr 1
              omega
            · right
              exact cld_mem (List.mem_append.2 (.inl (fold_mem q _ hL))) (List.mem_append.2 (.inr m2)) d e
      · right
        exact c
    · have h1 : row.length = 1 := by omega
      rw [fmF_end (by omega)] at hf
      have hp := fmOK_nil hf
      subst hp
      left
      have : i = 0 := by omega
      subst this
      rw [← rtT_one' h1]
      exact hr
/-- What law UpdateForged says of a proved piece. -/
theorem forged_facts {L : List (List Int)} {d p : List Int} {i : Nat} (hi : i < L.length) (h64 : L.length ≤ 64) (hf : fmOK (fmL i L.length) p = true) (hb : clB i p = false) (hc : clH d i p = rtL L) : d = L.getD i [] ∨ Cld (clL d i p ++ trL L) := by
  unfold clH rtL at hc
  rw [hb, if_neg (by decide), if_neg (by omega), stK_all] at hc
  have hl : (lvs L).length = L.length := lvs_len L
  have m1 : d ∈ clL d i p := by
    unfold clL
    rw [hb, if_neg (by decide), stK_all]
    exact fold_mem p _ (by simp)
  have m2 : [0, Dg d] ∈ clL d i p := by
    unfold clL
    rw [hb, if_neg (by decide), stK_all]
    exact fold_mem p _ (by simp)
  have hm : L.getD i [] ∈ L := by simp [List.getD_eq_getElem?_getD, hi]
  have t1 : L.getD i [] ∈ trL L := List.mem_append.2 (.inl (List.mem_flatMap.2 ⟨_, hm, by simp⟩))
  have t2 : [0, Dg (L.getD i [])] ∈ trL L := List.mem_append.2 (.inl (List.mem_flatMap.2 ⟨_, hm, by simp⟩))
  have hcl : clL d i p = (p.foldl stN ⟨i, lf d, [d, [0, Dg d]]⟩).L := by
    unfold clL
    rw [hb, if_neg (by decide), stK_all]
  rcases climb_idx (T := trL L) L.length (lvs L) i p ⟨i, lf d, [d, [0, Dg d]]⟩ (by omega) (by omega) rfl (by rw [hl]; exact hf) hc (fun y hy => List.mem_append.2 (.inr hy)) with e | c
  · rw [lvs_get hi] at e
    have e2 : Dg [0, Dg d] = Dg [0, Dg (L.getD i [])] := e
    by_cases q : Dg d = Dg (L.getD i [])
    · by_cases q2 : d = L.getD i []
      · exact .inl q2
      · exact .inr (cld_mem (List.mem_append.2 (.inl m1)) (List.mem_append.2 (.inr t1)) q2 q)
    · exact .inr (cld_mem (List.mem_append.2 (.inl m2)) (List.mem_append.2 (.inr t2)) (fun x => q (by simpa using x)) e2)
  · right
    rw [hcl]
    exact c
open Go.RowKit

theorem spE_ok {key ver s : Int} {D : List Int} (h : spE key ver s D = 0) : inB 0 2147483646 key = true ∧ inB 1 1000000 ver = true ∧ inB 1 32 s = true ∧ D ≠ [] ∧ daB D = true ∧ chN D.length s.toNat ≤ 64 := by
  unfold spE at h
  cases h1 : (inB 0 2147483646 key && (inB 1 1000000 ver && (inB 1 32 s && (!D.isEmpty && daB D))))
  · rw [if_pos h1] at h; exact absurd h (by decide)
  · rw [if_neg (by rw [h1]; decide)] at h
    by_cases h2 : 64 < chN D.length s.toNat
    · rw [if_pos h2] at h; exact absurd h (by decide)
    · rw [Bool.and_eq_true, Bool.and_eq_true, Bool.and_eq_true, Bool.and_eq_true] at h1
      obtain ⟨a, b, c, d, e⟩ := h1
      refine ⟨a, b, c, ?_, e, by omega⟩
      rintro rfl
      simp at d
theorem chN_pos {n s : Nat} (hs : 1 ≤ s) (hn : 1 ≤ n) : 1 ≤ chN n s := by
  have := (chN_lt (n := n) (k := 0) hs).2 (by omega)
  omega
theorem rtL_in {L : List (List Int)} (h : L.length ≤ 1000) (hn : L ≠ []) : InD (rtL L) := by
  unfold rtL
  rw [if_neg (by omega)]
  exact rt_in (lvs_in L) (by simpa [lvs] using hn)
theorem tgM_in (key : Int) (m : Mf) : InD (tgM key m) := Dg_bd _
theorem spM_eq (key ver s : Int) (D : List Int) : spM key ver s D 0 = ⟨ver, chN D.length s.toNat, s, rtL (chL s.toNat D), tgM key (spM0 ver s D)⟩ := if_pos rfl
theorem spM_tag (key ver s : Int) (D : List Int) : (spM key ver s D 0).t = tgM key (spM key ver s D 0) := by rw [spM_eq]; rfl
theorem len_pos {D : List Int} (h : D ≠ []) : 1 ≤ D.length := by
  cases D with
  | nil => exact absurd rfl h
  | cons a l => simp
theorem spM_ok {key ver s : Int} {D : List Int} (h : spE key ver s D = 0) : mfB (spM key ver s D 0) = true := by
  obtain ⟨h1, h2, h3, h4, h5, h6⟩ := spE_ok h
  have h7 := inB_iff.1 h3
  have h8 := chN_pos (n := D.length) (s := s.toNat) (by omega) (len_pos h4)
  have h9 := rtL_in (L := chL s.toNat D) (by rw [chL_len]; omega) (by
    intro e
    have := chL_len s.toNat D
    rw [e] at this
    simp at this
    omega)
  have h10 := tgM_in key (spM0 ver s D)
  rw [spM_eq]
  unfold mfB
  rw [Bool.and_eq_true, Bool.and_eq_true, Bool.and_eq_true, Bool.and_eq_true]
  exact ⟨h2, inB_iff.2 ⟨by show (1 : Int) ≤ (chN D.length s.toNat : Int); omega, by show ((chN D.length s.toNat : Nat) : Int) ≤ 64; omega⟩, h3, inB_iff.2 ⟨h9.1, by have := h9.2; show rtL (chL s.toNat D) ≤ 2147483646; omega⟩, inB_iff.2 ⟨h10.1, by have := h10.2; show tgM key (spM0 ver s D) ≤ 2147483646; omega⟩⟩
theorem bg_spM {key ver s used : Int} {D : List Int} (h : spE key ver s D = 0) : bgE key used (spM key ver s D 0) = if inB 0 1000000 used = false then 1 else if ver ≤ used then 31 else 0 := by
  unfold bgE
  rw [(spE_ok h).1, spM_ok h, Bool.true_and, Bool.and_true, if_neg (c := (spM key ver s D 0).t ≠ tgM key (spM key ver s D 0)) (by rw [← spM_tag]; exact fun e => e rfl)]
  rw [show (spM key ver s D 0).v = ver by rw [spM_eq]]
theorem tgM_key {a b : Int} {m : Mf} (ha : inB 0 2147483646 a = true) (hb : inB 0 2147483646 b = true) : tgM a m = tgM b m ↔ a = b := by
  have h1 := inB_iff.1 ha
  have h2 := inB_iff.1 hb
  have := Dg_replace [] (4 :: m.nums) a b
  constructor
  · intro e
    have e2 := this.1 e
    omega
  · rintro rfl; rfl
theorem bg_other {key ver s other : Int} {D : List Int} (h : spE key ver s D = 0) : bgE other 0 (spM key ver s D 0) = 0 ↔ other = key := by
  obtain ⟨h1, h2, h3, h4, h5, h6⟩ := spE_ok h
  have h2' := inB_iff.1 h2
  unfold bgE
  rw [spM_ok h, Bool.and_true]
  cases ho : inB 0 2147483646 other
  · rw [Bool.false_and, if_pos rfl]
    constructor
    · intro e; exact absurd e (by decide)
    · rintro rfl; rw [h1] at ho; cases ho
  · rw [if_neg (c := (true && inB 0 1000000 0) = false) (by decide), show (spM key ver s D 0).v = ver by rw [spM_eq]]
    by_cases e : other = key
    · subst e
      rw [if_neg (by rw [← spM_tag]; exact fun e => e rfl), if_neg (by omega)]
      simp
    · rw [if_pos (by rw [spM_tag]; exact fun q => e ((tgM_key ho h1).1 q.symm))]
      constructor
      · intro q; exact absurd q (by decide)
      · exact fun q => absurd q e
/-- The manifest with one number changed. -/
def chM (k : Nat) (n : Int) (m : Mf) : Mf := match k with
  | 0 => { m with v := n }
  | 1 => { m with c := n }
  | 2 => { m with s := n }
  | 3 => { m with r := n }
  | _ => { m with t := n }
def fdM (k : Nat) (m : Mf) : Int := match k with
  | 0 => m.v
  | 1 => m.c
  | 2 => m.s
  | 3 => m.r
  | _ => m.t
theorem chM_same (k : Nat) (m : Mf) : chM k (fdM k m) m = m := by
  unfold chM fdM
  match k with
  | 0 => rfl
  | 1 => rfl
  | 2 => rfl
  | 3 => rfl
  | n + 4 => rfl
theorem mfB_iff {m : Mf} : mfB m = true ↔ inB 1 1000000 m.v = true ∧ inB 1 64 m.c = true ∧ inB 1 32 m.s = true ∧ inB 0 2147483646 m.r = true ∧ inB 0 2147483646 m.t = true := by
  unfold mfB
  rw [Bool.and_eq_true, Bool.and_eq_true, Bool.and_eq_true, Bool.and_eq_true]
theorem bg_zero {key : Int} {m : Mf} (h : bgE key 0 m = 0) : mfB m = true ∧ m.t = tgM key m := by
  unfold bgE at h
  cases hm : mfB m
  · rw [hm, Bool.and_false, Bool.and_false, if_pos rfl] at h; exact absurd h (by decide)
  · refine ⟨rfl, ?_⟩
    cases hk : (inB 0 2147483646 key && (inB 0 1000000 0 && mfB m))
    · rw [if_pos hk] at h; exact absurd h (by decide)
    · rw [if_neg (by rw [hk]; decide)] at h
      by_cases e : m.t = tgM key m
      · exact e
      · rw [if_pos e] at h; exact absurd h (by decide)
theorem bg_changed {key ver s n : Int} {D : List Int} (h : spE key ver s D = 0) (k : Nat) : bgE key 0 (chM k n (spM key ver s D 0)) = 0 ↔ n = fdM k (spM key ver s D 0) := by
  constructor
  · intro q
    obtain ⟨q1, q2⟩ := bg_zero q
    have m1 := spM_ok h
    have t1 := spM_tag key ver s D
    obtain ⟨M, hM⟩ : ∃ M, spM key ver s D 0 = M := ⟨_, rfl⟩
    rw [hM] at q1 q2 m1 t1 ⊢
    obtain ⟨a1, a2, a3, a4, a5⟩ := mfB_iff.1 m1
    obtain ⟨b1, b2, b3, b4, b5⟩ := mfB_iff.1 q1
    match k with
    | 0 =>
      have e := (Dg_replace [key, 4] [M.c, M.s, M.r] n M.v).1 (q2.symm.trans t1)
      have := inB_iff.1 a1
      have : 1 ≤ n ∧ n ≤ 1000000 := inB_iff.1 b1
      show n = M.v
      omega
    | 1 =>
      have e := (Dg_replace [key, 4, M.v] [M.s, M.r] n M.c).1 (q2.symm.trans t1)
      have := inB_iff.1 a2
      have : 1 ≤ n ∧ n ≤ 64 := inB_iff.1 b2
      show n = M.c
      omega
    | 2 =>
      have e := (Dg_replace [key, 4, M.v, M.c] [M.r] n M.s).1 (q2.symm.trans t1)
      have := inB_iff.1 a3
      have : 1 ≤ n ∧ n ≤ 32 := inB_iff.1 b3
      show n = M.s
      omega
    | 3 =>
      have e := (Dg_replace [key, 4, M.v, M.c, M.s] [] n M.r).1 (q2.symm.trans t1)
      have := inB_iff.1 a4
      have : 0 ≤ n ∧ n ≤ 2147483646 := inB_iff.1 b4
      show n = M.r
      omega
    | j + 4 =>
      show n = M.t
      rw [t1]
      exact q2
  · rintro rfl
    rw [chM_same]
    exact (bg_other h).2 rfl
/-- An empty slot: nothing has come yet. -/
theorem slB_new {m : Mf} (h : mfB m = true) : slB m (List.replicate m.c.toNat []) = true := by
  obtain ⟨-, h2, -⟩ := mfB_iff.1 h
  have := inB_iff.1 h2
  unfold slB
  rw [h, List.length_replicate, decide_eq_true (show ((m.c.toNat : Nat) : Int) = m.c by omega)]
  rw [Bool.true_and, Bool.true_and, List.all_eq_true]
  intro i hi
  unfold slP
  simp [List.getD_eq_getElem?_getD, List.getElem?_replicate]
  left
  split <;> rfl
theorem msL_new (n : Nat) : (msL (List.replicate n [])).length = n := by
  unfold msL msN
  rw [List.length_map, List.filter_eq_self.2, List.length_range, List.length_replicate]
  intro i hi
  simp [List.getD_eq_getElem?_getD, List.getElem?_replicate]
  split <;> rfl
theorem msB_new {m : Mf} (h : mfB m = true) : (msB m (List.replicate m.c.toNat [])).length = m.c.toNat := by
  unfold msB
  rw [if_pos (slB_new h), msL_new]
theorem jo_new {m : Mf} (h : mfB m = true) : joE m (List.replicate m.c.toNat []) = 28 := by
  obtain ⟨-, h2, -⟩ := mfB_iff.1 h
  have := inB_iff.1 h2
  unfold joE
  rw [slB_new h, if_neg (by decide), msL_new, if_pos (by omega)]
end Go.Proofs.Yteodafhgfcbdpaa
