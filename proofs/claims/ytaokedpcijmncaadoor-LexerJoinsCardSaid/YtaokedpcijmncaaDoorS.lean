/- What stands behind a text that the lexer takes. -/
import Derived.Test.YtaokedpcijmncaaDoorR
namespace Go.Proofs.YtaokedpcijmncaaDoor
open Go.RowKit Go.Maps

/-- A list begins with no token. -/
def Sp (r : List UInt8) : Prop := hk r = 0 ∨ hk r = 16 ∨ hk r = 32
theorem two_len {l : List UInt8} (h : twoL l = true) : 2 ≤ l.length := by
  match l, h with
  | c :: d :: w, _ => simp
theorem mkI_sp (p : Nat) (m r : List UInt8) (hm : m ≠ []) (hr : Sp r) : mkI p (m ++ r) = mkI p m := by
  have hb : Bd [] r := .inl hr
  have e0 : m ++ ([] : List UInt8) = m := List.append_nil m
  have h7 := run_bd (u := m) hb K7 (by rw [e0]; exact run_le 7 m)
  have hn := num_bd (u := m) hb (by rw [e0]; exact numE_le m)
  have ht := twoL_bd (u := m) hm hb (fun h => by rw [e0] at h; exact two_len h)
  have hh := hk_app (r := []) (r' := r) hm
  rw [e0] at h7 hn ht hh
  have htk : ∀ n, n ≤ m.length → (m ++ r).take n = m.take n := fun n hn => List.take_append_of_le_length hn
  unfold mkI
  rw [hh, h7, hn.1, hn.2.1, hn.2.2, ht, htk _ (run_le 7 m), htk _ (numE_le m), htk]
  split
  · rename_i h; exact two_len h
  · cases m with
    | nil => exact absurd rfl hm
    | cons c m => simp
theorem lex_app (n : Nat) : ∀ (b : Bool) (p : Nat) (u r : List UInt8), u.length ≤ n → Sp r →
    ((∀ x ∈ lexL b p u, x.err = 0) → ∃ c, lexL b p (u ++ r) = lexL b p u ++ lexL c (p + u.length) r) ∧ ((∃ x ∈ lexL b p u, x.err ≠ 0) → lexL b p (u ++ r) = lexL b p u) := by
  induction n with
  | zero =>
    intro b p u r hu hr
    obtain rfl : u = [] := List.eq_nil_of_length_eq_zero (by omega)
    have h0 : lexL b p [] = [] := lexL_end b p [] (by simp)
    rw [h0]
    exact ⟨fun _ => ⟨b, by simp⟩, fun ⟨x, hx, _⟩ => by simp at hx⟩
  | succ n ih =>
    intro b p u r hu hr
    by_cases hg : gapF b u < u.length
    · have hg2 : gapF b (u ++ r) = gapF b u := by rw [gapF_app, if_pos hg]
      have hd : (u ++ r).drop (gapF b u) = u.drop (gapF b u) ++ r := List.drop_append_of_le_length (by omega)
      have hm : u.drop (gapF b u) ≠ [] := by
        intro e; have := congrArg List.length e; simp at this; omega
      have hI : mkI (p + gapF b (u ++ r)) ((u ++ r).drop (gapF b (u ++ r))) = mkI (p + gapF b u) (u.drop (gapF b u)) := by rw [hg2, hd, mkI_sp _ _ _ hm hr]
      have hg3 : gapF b (u ++ r) < (u ++ r).length := by rw [hg2]; simp; omega
      by_cases he : (mkI (p + gapF b u) (u.drop (gapF b u))).err = 0
      · have hl := mkI_len _ _ he
        have e1 := lexL_go b p u hg he
        have e2 := lexL_go b p (u ++ r) hg3 (by rw [hI]; exact he)
        rw [hI, hg2, hd] at e2
        generalize mkI (p + gapF b u) (u.drop (gapF b u)) = x at *
        rw [List.drop_append_of_le_length hl.2.2] at e2
        have hlen : ((u.drop (gapF b u)).drop x.t.size).length = u.length - gapF b u - x.t.size := by simp; omega
        have hl3 := hl.2.2
        simp only [List.length_drop] at hl3
        obtain ⟨i1, i2⟩ := ih false (p + gapF b u + x.t.size) ((u.drop (gapF b u)).drop x.t.size) r (by omega) hr
        rw [e1, e2]
        constructor
        · intro hall
          obtain ⟨c, hc⟩ := i1 (fun y hy => hall y (List.mem_cons_of_mem _ hy))
          refine ⟨c, ?_⟩
          rw [hc, hlen, List.cons_append, show p + gapF b u + x.t.size + (u.length - gapF b u - x.t.size) = p + u.length by omega]
        · rintro ⟨y, hy, hye⟩
          rcases List.mem_cons.1 hy with e | hy
          · rw [e] at hye; exact absurd he hye
          · rw [i2 ⟨y, hy, hye⟩]
      · have e1 := lexL_bad b p u hg he
        have e2 := lexL_bad b p (u ++ r) hg3 (by rw [hI]; exact he)
        rw [hI] at e2
        rw [e1, e2]
        exact ⟨fun h => absurd (h _ (by simp)) he, fun _ => rfl⟩
    · have hgl := gapF_le b u
      have h0 := lexL_end b p u hg
      rw [h0]
      refine ⟨fun _ => ⟨openC b u, ?_⟩, fun ⟨x, hx, _⟩ => by simp at hx⟩
      have hg2 : gapF b (u ++ r) = u.length + gapF (openC b u) r := by rw [gapF_app, if_neg hg]
      have hd : (u ++ r).drop (gapF b (u ++ r)) = r.drop (gapF (openC b u) r) := by
        rw [hg2, List.drop_append]; simp
      have hp : p + gapF b (u ++ r) = p + u.length + gapF (openC b u) r := by omega
      rw [List.nil_append]
      by_cases hr2 : gapF (openC b u) r < r.length
      · have hg3 : gapF b (u ++ r) < (u ++ r).length := by rw [hg2]; simp; omega
        by_cases he : (mkI (p + u.length + gapF (openC b u) r) (r.drop (gapF (openC b u) r))).err = 0
        · rw [lexL_go _ _ r hr2 he, lexL_go b p (u ++ r) hg3 (by rw [hp, hd]; exact he), hp, hd]
        · rw [lexL_bad _ _ r hr2 he, lexL_bad b p (u ++ r) hg3 (by rw [hp, hd]; exact he), hp, hd]
      · rw [lexL_end _ _ r hr2, lexL_end]
        rw [hg2]; simp; omega
end Go.Proofs.YtaokedpcijmncaaDoor
