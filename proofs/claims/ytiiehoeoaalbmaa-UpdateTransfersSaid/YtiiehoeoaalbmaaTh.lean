/- Hash trees: a climb that yields the root starts at one of the lists, or two lists have one digest. -/
import Derived.Test.YtiiehoeoaalbmaaLh
namespace Go.Proofs.Ytiiehoeoaalbmaa
open Go.RowKit

/-- A value of a row: the digest of one of the tree's lists, down to the leaves. -/
inductive GV (L T : List (List Int)) : Int → Prop
  | leaf (l : List Int) : l ∈ L → l ∈ T → [0, Dg l] ∈ T → GV L T (Dg [0, Dg l])
  | node (a b : Int) : [1, a, b] ∈ T → GV L T a → GV L T b → GV L T (Dg [1, a, b])
theorem GV.cases' {L T : List (List Int)} {v : Int} (h : GV L T v) : (∃ l, l ∈ L ∧ l ∈ T ∧ [0, Dg l] ∈ T ∧ v = Dg [0, Dg l]) ∨ (∃ a b, [1, a, b] ∈ T ∧ GV L T a ∧ GV L T b ∧ v = Dg [1, a, b]) := by
  cases h with
  | leaf l h1 h2 h3 => exact .inl ⟨l, h1, h2, h3, rfl⟩
  | node a b h1 h2 h3 => exact .inr ⟨a, b, h1, h2, h3, rfl⟩
theorem cld_mem {Ls : List (List Int)} {x y : List Int} (hx : x ∈ Ls) (hy : y ∈ Ls) (hn : x ≠ y) (hd : Dg x = Dg y) : Cld Ls := by
  obtain ⟨i, hi, rfl⟩ := List.getElem_of_mem hx
  obtain ⟨j, hj, rfl⟩ := List.getElem_of_mem hy
  refine ⟨i, j, hi, hj, ?_⟩
  unfold cdB
  rw [show Ls.getD i [] = Ls[i] by simp [hi], show Ls.getD j [] = Ls[j] by simp [hj]]
  exact ⟨hn, hd⟩
theorem cld_mono {A B : List (List Int)} (h : Cld A) (hs : ∀ x ∈ A, x ∈ B) : Cld B := by
  obtain ⟨i, j, hi, hj, h1, h2⟩ := h
  rw [show A.getD i [] = A[i] by simp [hi], show A.getD j [] = A[j] by simp [hj]] at h1 h2
  exact cld_mem (hs _ (List.getElem_mem hi)) (hs _ (List.getElem_mem hj)) h1 h2
theorem climb_start {L T : List (List Int)} {l : List Int} (h : GV L T (lf l)) : l ∈ L ∨ Cld ([l, [0, Dg l]] ++ T) := by
  have m0 : ∀ {y : List Int}, y ∈ T → y ∈ [l, [0, Dg l]] ++ T := fun hy => by simp [hy]
  have m1 : l ∈ [l, [0, Dg l]] ++ T := by simp
  have m2 : [0, Dg l] ∈ [l, [0, Dg l]] ++ T := by simp
  rcases h.cases' with ⟨k, h1, h2, h3, h4⟩ | ⟨a, b, h1, -, -, h4⟩
  · by_cases e : Dg l = Dg k
    · by_cases e2 : l = k
      · exact .inl (e2 ▸ h1)
      · exact .inr (cld_mem m1 (m0 h2) e2 e)
    · exact .inr (cld_mem m2 (m0 h3) (fun h => e (by simpa using h)) h4)
  · exact .inr (cld_mem m2 (m0 h1) (fun h => by simp at h) h4)
theorem climb_step {L T : List (List Int)} {l : List Int} (s : St) (x : Int) (ih : GV L T s.h → l ∈ L ∨ Cld (s.L ++ T)) (h : GV L T (stN s x).h) : l ∈ L ∨ Cld ((stN s x).L ++ T) := by
  have key : ∀ (p q : Int), (p = s.h ∨ q = s.h) → GV L T (Dg [1, p, q]) → l ∈ L ∨ Cld ((s.L ++ [[1, p, q]]) ++ T) := fun p q hpq hg => by
    have m0 : ∀ {y : List Int}, y ∈ T → y ∈ (s.L ++ [[1, p, q]]) ++ T := fun hy => by simp [hy]
    have m1 : [1, p, q] ∈ (s.L ++ [[1, p, q]]) ++ T := by simp
    rcases hg.cases' with ⟨k, h1, h2, h3, h4⟩ | ⟨a, b, h1, h2, h3, h4⟩
    · exact .inr (cld_mem m1 (m0 h3) (fun h => by simp at h) h4)
    · by_cases e : [1, p, q] = [1, a, b]
      · simp at e
        have hs : GV L T s.h := by
          rcases hpq with h5 | h5
          · rw [← h5, e.1]; exact h2
          · rw [← h5, e.2]; exact h3
        rcases ih hs with h6 | h6
        · exact .inl h6
        · exact .inr (cld_mono h6 (fun y hy => by
            rcases List.mem_append.1 hy with h7 | h7
            · simp [h7]
            · simp [h7]))
      · exact .inr (cld_mem m1 (m0 h1) e h4)
  unfold stN at h ⊢
  by_cases hx : x = -1
  · rw [if_pos hx] at h ⊢; exact ih h
  · rw [if_neg hx] at h ⊢
    by_cases ho : s.i % 2 = 1
    · rw [if_pos ho] at h ⊢; exact key x s.h (.inr rfl) h
    · rw [if_neg ho] at h ⊢; exact key s.h x (.inl rfl) h
theorem climb_all {L T : List (List Int)} {l : List Int} (i : Int) (p : List Int) : ∀ k, GV L T (stK l i p k).h → l ∈ L ∨ Cld ((stK l i p k).L ++ T)
  | 0, h => climb_start h
  | k + 1, h => climb_step (stK l i p k) (p.getD k 0) (climb_all i p k) h
/-- The pairs of a row, as lists. -/
def prs : List Int → List (List Int)
  | x :: y :: r => [1, x, y] :: prs r
  | _ => []
theorem upR_gv {L T : List (List Int)} : ∀ (n : Nat) (row : List Int), row.length ≤ n → (∀ v ∈ row, GV L T v) → (∀ y ∈ prs row, y ∈ T) → ∀ v ∈ upR row, GV L T v
  | 0, row, h, _, _, v, hv => by
    obtain rfl : row = [] := List.length_eq_zero_iff.1 (by omega)
    rw [upR_nil] at hv
    cases hv
  | n + 1, row, h, hr, hp, v, hv => by
    match row, h with
    | [], _ => rw [upR_nil] at hv; cases hv
    | [y], _ => rw [upR_one] at hv; exact hr v hv
    | x :: y :: r, h =>
      rw [upR_two] at hv
      rcases List.mem_cons.1 hv with rfl | hv
      · exact .node x y (hp _ (by simp [prs])) (hr x (by simp)) (hr y (by simp))
      · exact upR_gv n r (by simp at h; omega) (fun q hq => hr q (by simp [hq])) (fun q hq => hp q (by simp [prs, hq])) v hv
/-- The lists of all pairs of a row and of those above it. -/
def allP : List (List Int) → List (List Int)
  | [] => []
  | row :: r => prs row ++ allP r
theorem root_gv {L T : List (List Int)} : ∀ (n : Nat) (row : List Int), row.length ≤ n → row ≠ [] → (∀ v ∈ row, GV L T v) → (∀ y ∈ allP (rowsT row), y ∈ T) → GV L T (rtT row)
  | 0, row, h, hn, _, _ => absurd (List.length_eq_zero_iff.1 (by omega)) hn
  | n + 1, row, h, hn, hr, hp => by
    have h0 := List.length_pos_iff.2 hn
    by_cases g : 1 < row.length
    · rw [rowsT_more g] at hp
      rw [rtT_up g]
      exact root_gv n (upR row) (by rw [upR_len]; omega) (fun e => by have := upR_len row; rw [e] at this; simp at this; omega) (upR_gv _ row (Nat.le_refl _) hr (fun y hy => hp y (by simp [allP, hy]))) (fun y hy => hp y (by simp [allP, hy]))
    · obtain ⟨x, rfl⟩ := List.length_eq_one_iff.1 (show row.length = 1 by omega)
      rw [rtT_one]
      exact hr x (by simp)
/-- The lists of the tree. -/
def trL (L : List (List Int)) : List (List Int) := (L.flatMap fun l => [l, [0, Dg l]]) ++ allP (rowsT (lvs L))
/-- What law CryptoProofs says of the two. -/
theorem proof_facts {L : List (List Int)} {l : List Int} {i : Int} {p : List Int} (h9 : L.length ≤ 1000) (hL : L ≠ []) (hb : clB i p = false) (h : clH l i p = rtL L) : l ∈ L ∨ Cld (clL l i p ++ trL L) := by
  have hn : lvs L ≠ [] := fun e => hL (by have := congrArg List.length e; rw [lvs_len] at this; exact List.length_eq_zero_iff.1 this)
  have hv : ∀ v ∈ lvs L, GV L (trL L) v := fun v hv => by
    obtain ⟨k, hk, rfl⟩ := List.mem_map.1 hv
    refine .leaf k hk ?_ ?_
    · exact List.mem_append.2 (.inl (List.mem_flatMap.2 ⟨k, hk, by simp⟩))
    · exact List.mem_append.2 (.inl (List.mem_flatMap.2 ⟨k, hk, by simp⟩))
  have hr := root_gv (L := L) (T := trL L) _ (lvs L) (Nat.le_refl _) hn hv (fun y hy => List.mem_append.2 (.inr hy))
  unfold clH rtL at h
  rw [hb, if_neg (by decide), if_neg (by omega)] at h
  rw [← h] at hr
  unfold clL
  rw [hb, if_neg (by decide)]
  exact climb_all i p _ hr
end Go.Proofs.Ytiiehoeoaalbmaa
