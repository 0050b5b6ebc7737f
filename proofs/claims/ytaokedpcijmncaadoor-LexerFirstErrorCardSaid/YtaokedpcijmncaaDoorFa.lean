/- The first error of a text: what stands before it has none; what stands 17 bytes behind it does not matter. -/
import Derived.Test.YtaokedpcijmncaaDoorT
namespace Go.Proofs.YtaokedpcijmncaaDoor
open Go.RowKit Go.Maps

/-- Behind a list that is all gaps the rest is lexed alone. -/
theorem lexL_gap (b : Bool) (p : Nat) (v r : List UInt8) (hg : ¬ gapF b v < v.length) : lexL b p (v ++ r) = lexL (openC b v) (p + v.length) r := by
  have hg2 : gapF b (v ++ r) = v.length + gapF (openC b v) r := by rw [gapF_app, if_neg hg]
  have hd : (v ++ r).drop (gapF b (v ++ r)) = r.drop (gapF (openC b v) r) := by rw [hg2, List.drop_append]; simp
  have hp : p + gapF b (v ++ r) = p + v.length + gapF (openC b v) r := by omega
  by_cases hr2 : gapF (openC b v) r < r.length
  · have hg3 : gapF b (v ++ r) < (v ++ r).length := by rw [hg2]; simp; omega
    by_cases he : (mkI (p + v.length + gapF (openC b v) r) (r.drop (gapF (openC b v) r))).err = 0
    · rw [lexL_go _ _ r hr2 he, lexL_go b p (v ++ r) hg3 (by rw [hp, hd]; exact he), hp, hd]
    · rw [lexL_bad _ _ r hr2 he, lexL_bad b p (v ++ r) hg3 (by rw [hp, hd]; exact he), hp, hd]
  · rw [lexL_end _ _ r hr2, lexL_end]
    rw [hg2]; simp; omega
theorem gapF_take (b : Bool) (u : List UInt8) : gapF b (u.take (gapF b u)) = gapF b u := by
  have hl := gapF_le b u
  have h := gapF_app b (u.take (gapF b u)) (u.drop (gapF b u))
  rw [List.take_append_drop] at h
  have hlen : (u.take (gapF b u)).length = gapF b u := by rw [List.length_take]; omega
  rw [hlen] at h
  have h2 := gapF_le b (u.take (gapF b u))
  rw [hlen] at h2
  split at h <;> omega
/-- Where gaps end, something else begins. -/
theorem gapF_next (b : Bool) (u : List UInt8) (h : gapF b u < u.length) : openC b (u.take (gapF b u)) = false ∧ hk (u.drop (gapF b u)) ≠ 16 ∧ hk (u.drop (gapF b u)) ≠ 32 := by
  have hl := gapF_le b u
  have ht := gapF_take b u
  have ha := gapF_app b (u.take (gapF b u)) (u.drop (gapF b u))
  rw [List.take_append_drop] at ha
  have hlen : (u.take (gapF b u)).length = gapF b u := by rw [List.length_take]; omega
  rw [ht, hlen, if_neg (by omega)] at ha
  have h0 : gapF (openC b (u.take (gapF b u))) (u.drop (gapF b u)) = 0 := by omega
  cases hm : u.drop (gapF b u) with
  | nil => have := congrArg List.length hm; simp at this; omega
  | cons c m =>
    rw [hm] at h0
    cases ho : openC b (u.take (gapF b u))
    · rw [ho, gapF] at h0
      refine ⟨rfl, ?_, ?_⟩
      · intro e; rw [if_pos (show kb c = 16 from e)] at h0; omega
      · intro e
        have e2 : kb c = 32 := e
        rw [if_neg (by rw [e2]; decide), if_pos e2] at h0; omega
    · rw [ho, gapF] at h0; omega
theorem gapF_pre (b : Bool) (u : List UInt8) (k : Nat) (h : gapF b u < k) (hk : k ≤ u.length) : gapF b (u.take k) = gapF b u := by
  have ha := gapF_app b (u.take k) (u.drop k)
  rw [List.take_append_drop] at ha
  have hlen : (u.take k).length = k := by rw [List.length_take]; omega
  rw [hlen] at ha
  split at ha <;> omega

/-- The first error: where it is, what stands before it, what may stand in the place of what follows. -/
theorem first_err (n : Nat) : ∀ (b : Bool) (p : Nat) (u : List UInt8), u.length ≤ n → (∃ x ∈ lexL b p u, x.err ≠ 0) →
    ∃ (pre : List Item) (k : Nat), k < u.length ∧ (∀ y ∈ pre, y.err = 0) ∧ (mkI (p + k) (u.drop k)).err ≠ 0 ∧ hk (u.drop k) ≠ 16 ∧ hk (u.drop k) ≠ 32 ∧ lexL b p u = pre ++ [mkI (p + k) (u.drop k)] ∧
      lexL b p (u.take k) = pre ∧ (∀ (c : UInt8) (m m' : List UInt8), u.drop k = c :: m → lexL b p (u.take k ++ c :: m') = pre ++ lexL false (p + k) (c :: m')) := by
  induction n with
  | zero =>
    intro b p u hu ⟨x, hx, _⟩
    obtain rfl : u = [] := List.eq_nil_of_length_eq_zero (by omega)
    rw [lexL_end b p [] (by simp)] at hx
    simp at hx
  | succ n ih =>
    intro b p u hu hbad
    have hgl := gapF_le b u
    by_cases hg : gapF b u < u.length
    · have hnx := gapF_next b u hg
      by_cases he : (mkI (p + gapF b u) (u.drop (gapF b u))).err = 0
      · have e1 := lexL_go b p u hg he
        have hl := mkI_len _ _ he
        have hlm : (u.drop (gapF b u)).length = u.length - gapF b u := List.length_drop
        rw [e1] at hbad ⊢
        have hl3 := hl.2.2
        have hl2 := hl.2.1
        obtain ⟨pre, k, h1, h2, h3, h4, h5, h6, h7, h8⟩ := ih false (p + gapF b u + (mkI (p + gapF b u) (u.drop (gapF b u))).t.size) ((u.drop (gapF b u)).drop (mkI (p + gapF b u) (u.drop (gapF b u))).t.size)
          (by rw [List.length_drop, hlm]; omega) (by
            obtain ⟨x, hx, hxe⟩ := hbad
            rcases List.mem_cons.1 hx with e | e
            · rw [e] at hxe; exact absurd he hxe
            · exact ⟨x, e, hxe⟩)
        rw [List.length_drop, hlm] at h1
        generalize hxx : mkI (p + gapF b u) (u.drop (gapF b u)) = x at *
        have hK : gapF b u + x.t.size + k < u.length := by omega
        have hd : ((u.drop (gapF b u)).drop x.t.size).drop k = u.drop (gapF b u + x.t.size + k) := by rw [List.drop_drop, List.drop_drop]; congr 1; omega
        have hpk : p + gapF b u + x.t.size + k = p + (gapF b u + x.t.size + k) := by omega
        rw [hd] at h3 h4 h5 h6
        rw [hpk] at h3 h6
        -- a text that begins as u does up to that place
        have main : ∀ r' : List UInt8, (r' = [] ∨ ∃ (c : UInt8) (m m' : List UInt8), u.drop (gapF b u + x.t.size + k) = c :: m ∧ r' = c :: m' ∧ (mkI (p + (gapF b u + x.t.size + k)) (c :: m)).err ≠ 0) →
            lexL b p (u.take (gapF b u + x.t.size + k) ++ r') = x :: lexL false (p + gapF b u + x.t.size) (((u.drop (gapF b u)).drop x.t.size).take k ++ r') := by
          intro r' hr'
          have hsplit : u.take (gapF b u + x.t.size + k) = u.take (gapF b u) ++ ((u.drop (gapF b u)).take x.t.size ++ ((u.drop (gapF b u)).drop x.t.size).take k) := by
            rw [show gapF b u + x.t.size + k = gapF b u + (x.t.size + k) by omega, List.take_add, List.take_add]
          have hgA : gapF b (u.take (gapF b u + x.t.size + k) ++ r') = gapF b u := by
            rw [gapF_app, if_pos]
            · exact gapF_pre b u _ (by omega) (by omega)
            · rw [gapF_pre b u _ (by omega) (by omega), List.length_take]; omega
          have hlt : (u.take (gapF b u)).length = gapF b u := by rw [List.length_take]; omega
          have hdA : (u.take (gapF b u + x.t.size + k) ++ r').drop (gapF b u) = (u.drop (gapF b u)).take x.t.size ++ (((u.drop (gapF b u)).drop x.t.size).take k ++ r') := by
            rw [hsplit, List.append_assoc, List.drop_append, hlt, Nat.sub_self, List.drop_zero, List.drop_of_length_le (by omega), List.nil_append, List.append_assoc]
          have hsz : ((u.drop (gapF b u)).take x.t.size).length = x.t.size := by rw [List.length_take]; omega
          have hne : (u.drop (gapF b u)).take x.t.size ≠ [] := by intro e; rw [e] at hsz; simp at hsz; omega
          have hB : Bd ((u.drop (gapF b u)).drop x.t.size) (((u.drop (gapF b u)).drop x.t.size).take k ++ r') := by
            cases k with
            | zero =>
              rw [List.take_zero, List.nil_append]
              rcases hr' with rfl | ⟨c, m, m', hc, rfl, hce⟩
              · exact .inl (.inl rfl)
              · right
                rw [← hd, List.drop_zero] at hc
                refine ⟨c, m, m', hc, rfl, fun h46 => ?_⟩
                have h8 : hk (c :: m) = 8 := kb_dot h46
                exfalso; apply hce
                unfold mkI
                rw [if_neg (by rw [h8]; decide), if_neg (by rw [h8]; decide), if_pos h8]
            | succ k =>
              right
              cases hR : (u.drop (gapF b u)).drop x.t.size with
              | nil => have := congrArg List.length hR; rw [List.length_drop, hlm] at this; simp at this; omega
              | cons c m =>
                refine ⟨c, m, m.take k ++ r', rfl, rfl, fun _ hm2 => ?_⟩
                cases k with
                | zero =>
                  rw [List.take_zero, List.nil_append]
                  rcases hr' with rfl | ⟨c2, m2, m3, hc, rfl, _⟩
                  · decide
                  · rw [← hd, hR] at hc
                    have : m = c2 :: m2 := by simpa using hc
                    rw [this] at hm2
                    exact hm2
                | succ k =>
                  cases m with
                  | nil => have := congrArg List.length hR; rw [List.length_drop, hlm] at this; simp at this; omega
                  | cons c2 m2 => exact hm2
          have hI : mkI (p + gapF b u) ((u.drop (gapF b u)).take x.t.size ++ (((u.drop (gapF b u)).drop x.t.size).take k ++ r')) = x := by
            have := mkI_bd (u := (u.drop (gapF b u)).take x.t.size) (r := (u.drop (gapF b u)).drop x.t.size) (r' := ((u.drop (gapF b u)).drop x.t.size).take k ++ r') (p + gapF b u) hne hB
              (by rw [List.take_append_drop, hxx]; exact he) (by rw [List.take_append_drop, hxx, hsz]; exact Nat.le_refl _)
            rw [this, List.take_append_drop, hxx]
          have hgB : gapF b (u.take (gapF b u + x.t.size + k) ++ r') < (u.take (gapF b u + x.t.size + k) ++ r').length := by
            rw [hgA, List.length_append, List.length_take]; omega
          have hgo := lexL_go b p _ hgB (by rw [hgA, hdA, hI]; exact he)
          rw [hgA, hdA, hI] at hgo
          rw [hgo]
          congr 2
          rw [List.drop_append, hsz, Nat.sub_self, List.drop_zero, List.drop_of_length_le (by omega), List.nil_append]
        refine ⟨x :: pre, gapF b u + x.t.size + k, hK, ?_, h3, h4, h5, ?_, ?_, ?_⟩
        · intro y hy
          rcases List.mem_cons.1 hy with e | e
          · rw [e]; exact he
          · exact h2 y e
        · rw [h6]; rfl
        · have := main [] (.inl rfl)
          rw [List.append_nil, List.append_nil, h7] at this
          exact this
        · intro c m m' hc
          rw [main (c :: m') (.inr ⟨c, m, m', hc, rfl, by rw [← hc]; exact h3⟩)]
          rw [h8 c m m' (by rw [hd]; exact hc), hpk]; rfl
      · have e1 := lexL_bad b p u hg he
        have hlt : (u.take (gapF b u)).length = gapF b u := by rw [List.length_take]; omega
        refine ⟨[], gapF b u, hg, by simp, he, hnx.2.1, hnx.2.2, e1, ?_, ?_⟩
        · exact lexL_end _ _ _ (by rw [gapF_take, hlt]; omega)
        · intro c m m' _
          rw [lexL_gap b p _ _ (by rw [gapF_take, hlt]; omega), hnx.1, hlt]; rfl
    · rw [lexL_end b p u hg] at hbad
      obtain ⟨x, hx, _⟩ := hbad
      simp at hx
/-- A run is not lost where many bytes are kept. -/
theorem run_take_ge (K : Int) (l o : List UInt8) (j : Nat) : min (run K l) j ≤ run K (l.take j ++ o) := by
  induction l generalizing j with
  | nil => simp [run]
  | cons c l ih =>
    cases j with
    | zero => simp
    | succ j =>
      rw [List.take_succ_cons, List.cons_append, run, run]
      have := ih j
      split <;> omega
theorem run_take_eq (K : Int) (l o : List UInt8) (j : Nat) (h : run K l < j) (hl : run K l < l.length) : run K (l.take j ++ o) = run K l := by
  induction l generalizing j with
  | nil => simp at hl
  | cons c l ih =>
    cases j with
    | zero => omega
    | succ j =>
      rw [List.take_succ_cons, List.cons_append, run, run]
      rw [run] at h hl
      by_cases hc : inK (kb c) K = true
      · rw [if_pos hc] at h hl ⊢
        rw [if_pos hc, ih j (by omega) (by simpa using hl)]
      · rw [if_neg hc, if_neg hc]
/-- An error stands by 17 bytes. -/
theorem bad17 (p : Nat) (m o : List UInt8) (h : (mkI p m).err ≠ 0) (hm : m ≠ []) : (mkI p (m.take 17 ++ o)).err = (mkI p m).err := by
  have hh : hk (m.take 17 ++ o) = hk m := by
    cases m with
    | nil => exact absurd rfl hm
    | cons c m => rfl
  unfold mkI at h ⊢
  rw [hh]
  by_cases h1 : hk m = 1
  · rw [if_pos h1] at h ⊢
    rw [if_pos h1]
    by_cases hc : run 7 m > 16
    · have := run_take_ge 7 m o 17
      rw [if_pos hc, if_pos (by omega)]
    · rw [if_neg hc] at h; exact absurd rfl h
  · rw [if_neg h1] at h ⊢
    rw [if_neg h1]
    by_cases h2 : hk m = 2
    · rw [if_pos h2] at h ⊢
      rw [if_pos h2]
      by_cases hc : run 2 m > 9 ∨ numE m - run 2 m > 2
      · rw [if_pos hc]
        have key : run 2 (m.take 17 ++ o) > 9 ∨ numE (m.take 17 ++ o) - run 2 (m.take 17 ++ o) > 2 := by
          by_cases h9 : run 2 m > 9
          · left; have := run_take_ge 2 m o 17; omega
          · right
            have hE : numE m - run 2 m > 2 := by rcases hc with h | h; exact absurd h h9; exact h
            have hdot : dotF (m.drop (run 2 m)) = true := by
              cases hd : dotF (m.drop (run 2 m)) with
              | true => rfl
              | false => unfold numE at hE; rw [hd] at hE; simp at hE
            have hE2 : numE m = run 2 m + 1 + run 2 (m.drop (run 2 m + 1)) := by unfold numE; rw [if_pos hdot]
            have hlt : run 2 m < m.length := by
              apply Classical.byContradiction; intro hn
              rw [List.drop_of_length_le (by omega)] at hdot; cases hdot
            have hr := run_take_eq 2 m o 17 (by omega) hlt
            have hdrop : ∀ i, i ≤ 17 → i ≤ m.length → (m.take 17 ++ o).drop i = (m.drop i).take (17 - i) ++ o := fun i hi hi2 => by
              rw [List.drop_append_of_le_length (by rw [List.length_take]; omega), List.drop_take]
            have hd1 := hdrop (run 2 m) (by omega) (by omega)
            have hd2 := hdrop (run 2 m + 1) (by omega) (by omega)
            have h3 := run_take_ge 2 (m.drop (run 2 m + 1)) o (17 - (run 2 m + 1))
            have hdot2 : dotF ((m.take 17 ++ o).drop (run 2 m)) = true := by
              rw [hd1]
              cases hv : m.drop (run 2 m) with
              | nil => rw [hv] at hdot; cases hdot
              | cons c v =>
                rw [hv] at hdot
                have hv2 : v = m.drop (run 2 m + 1) := by
                  have := congrArg (List.drop 1) hv
                  rw [List.drop_drop] at this
                  simpa using this.symm
                cases v with
                | nil =>
                  have : (((c.toNat : Int) == 46) && (hk ([] : List UInt8) == 2)) = true := hdot
                  rw [Bool.and_eq_true] at this
                  exact absurd this.2 (by decide)
                | cons d v =>
                  rw [show 17 - run 2 m = (15 - run 2 m) + 1 + 1 by omega]
                  exact hdot
            have hE3 : numE (m.take 17 ++ o) = run 2 m + 1 + run 2 ((m.take 17 ++ o).drop (run 2 m + 1)) := by unfold numE; rw [hr, if_pos hdot2]
            rw [hE3, hr, hd2]
            omega
        rw [if_pos key]
      · rw [if_neg hc] at h; exact absurd rfl h
    · rw [if_neg h2] at h ⊢
      rw [if_neg h2]
      by_cases h8 : hk m = 8
      · rw [if_pos h8] at h; exact absurd rfl h
      · rw [if_neg h8, if_neg h8]
end Go.Proofs.YtaokedpcijmncaaDoor
