/- Shedding: the sort of the library as functions on lists. -/
import Derived.Test.YtpablikcidlkaaaSa
namespace Go.Proofs.Ytpablikcidlkaaa

/-- The element at i comes strictly before that at j, by the key alone. -/
def lessAt (P : Nat → Int) (L : List Nat) (i j : Nat) : Bool := decide (P (L.getD j 0) < P (L.getD i 0))
/-- An element sinks to its place. -/
def insD (P : Nat → Int) (a : Nat) : Nat → List Nat → List Nat
  | 0, L => L
  | j + 1, L => if (decide (a < j + 1) && lessAt P L (j + 1) j) = true then insD P a j (sw L (j + 1) j) else L
def insI (P : Nat → Int) (a : Nat) : Nat → Nat → List Nat → List Nat
  | _, 0, L => L
  | i, n + 1, L => insI P a (i + 1) n (insD P a i L)
def ins (P : Nat → Int) (a b : Nat) (L : List Nat) : List Nat := insI P a (a + 1) (b - (a + 1)) L
/-- A search by halves. -/
def srch (q : Nat → Bool) (i j : Nat) : Nat := if h : i < j then (if q ((i + j) / 2) = true then srch q ((i + j) / 2 + 1) j else srch q i ((i + j) / 2)) else i
termination_by j - i
decreasing_by all_goals omega
def mvR : Nat → Nat → List Nat → List Nat
  | _, 0, L => L
  | k, n + 1, L => mvR (k + 1) n (sw L k (k + 1))
def mvL : Nat → Nat → List Nat → List Nat
  | _, 0, L => L
  | k, n + 1, L => mvL (k - 1) n (sw L k (k - 1))
def swR (a b : Nat) : Nat → Nat → List Nat → List Nat
  | _, 0, L => L
  | i, n + 1, L => swR a b (i + 1) n (sw L (a + i) (b + i))
def rot (m : Nat) : Nat → Nat → Nat → List Nat → List Nat
  | 0, _, _, L => L
  | f + 1, i, j, L => if i = j then swR (m - i) m 0 i L else if j < i then rot m f (i - j) j (swR (m - i) m 0 j L) else rot m f i (j - i) (swR (m - i) (m + j - i) 0 i L)
def rota (a m b : Nat) (L : List Nat) : List Nat := rot m (b - a) (m - a) (b - m) L
/-- The search of the merge: the first place from which on the right elements come first. -/
def sst (P : Nat → Int) (a m b : Nat) (L : List Nat) : Nat :=
  if (a + b) / 2 < m then srch (fun c => !lessAt P L ((a + b) / 2 + m - 1 - c) c) ((a + b) / 2 + m - b) ((a + b) / 2) else srch (fun c => !lessAt P L ((a + b) / 2 + m - 1 - c) c) a m
def rotc (s m e : Nat) (L : List Nat) : List Nat := if (decide (s < m) && decide (m < e)) = true then rota s m e L else L
def symM (P : Nat → Int) : Nat → Nat → Nat → Nat → List Nat → List Nat
  | 0, _, _, _, L => L
  | f + 1, a, m, b, L =>
    if m - a = 1 then mvR a (srch (fun h => lessAt P L h a) m b - 1 - a) L
    else if b - m = 1 then mvL m (m - srch (fun h => !lessAt P L m h) a m) L
    else
      let s := sst P a m b L
      let e := (a + b) / 2 + m - s
      let L1 := rotc s m e L
      let L2 := if (decide (a < s) && decide (s < (a + b) / 2)) = true then symM P f a s ((a + b) / 2) L1 else L1
      if (decide ((a + b) / 2 < e) && decide (e < b)) = true then symM P f ((a + b) / 2) e b L2 else L2
theorem insD_len (P : Nat → Int) (a : Nat) : ∀ (j : Nat) (L : List Nat), (insD P a j L).length = L.length
  | 0, L => rfl
  | j + 1, L => by
    unfold insD
    split
    · rw [insD_len, sw_len]
    · rfl
theorem insI_len (P : Nat → Int) (a : Nat) : ∀ (n i : Nat) (L : List Nat), (insI P a i n L).length = L.length
  | 0, i, L => rfl
  | n + 1, i, L => by unfold insI; rw [insI_len, insD_len]
theorem mvR_len : ∀ (n k : Nat) (L : List Nat), (mvR k n L).length = L.length
  | 0, _, L => rfl
  | n + 1, k, L => by unfold mvR; rw [mvR_len, sw_len]
theorem mvL_len : ∀ (n k : Nat) (L : List Nat), (mvL k n L).length = L.length
  | 0, _, L => rfl
  | n + 1, k, L => by unfold mvL; rw [mvL_len, sw_len]
theorem swR_len (a b : Nat) : ∀ (n i : Nat) (L : List Nat), (swR a b i n L).length = L.length
  | 0, _, L => rfl
  | n + 1, i, L => by unfold swR; rw [swR_len, sw_len]
theorem rot_len (m : Nat) : ∀ (f i j : Nat) (L : List Nat), (rot m f i j L).length = L.length
  | 0, _, _, L => rfl
  | f + 1, i, j, L => by
    unfold rot
    split
    · rw [swR_len]
    · split <;> rw [rot_len, swR_len]
theorem srch_in (q : Nat → Bool) : ∀ (n i j : Nat), j - i = n → i ≤ j → i ≤ srch q i j ∧ srch q i j ≤ j := by
  intro n
  induction n using Nat.strongRecOn with
  | _ n ih =>
    intro i j hn hij
    rw [srch]
    split
    · split
      · have := ih (j - ((i + j) / 2 + 1)) (by omega) _ _ rfl (by omega)
        omega
      · have := ih ((i + j) / 2 - i) (by omega) _ _ rfl (by omega)
        omega
    · omega
/-- What the search finds. -/
theorem srch_is (q : Nat → Bool) : ∀ (n i j : Nat), j - i = n → i ≤ j → (i < srch q i j → q (srch q i j - 1) = true) ∧ (srch q i j < j → q (srch q i j) = false) := by
  intro n
  induction n using Nat.strongRecOn with
  | _ n ih =>
    intro i j hn hij
    rw [srch]
    split
    · split
      · rename_i hq
        obtain ⟨h1, h2⟩ := ih (j - ((i + j) / 2 + 1)) (by omega) _ _ rfl (by omega)
        have h3 := srch_in q _ ((i + j) / 2 + 1) j rfl (by omega)
        refine ⟨fun _ => ?_, h2⟩
        by_cases h : (i + j) / 2 + 1 < srch q ((i + j) / 2 + 1) j
        · exact h1 h
        · rw [show srch q ((i + j) / 2 + 1) j - 1 = (i + j) / 2 by omega]; exact hq
      · rename_i hq
        obtain ⟨h1, h2⟩ := ih ((i + j) / 2 - i) (by omega) _ _ rfl (by omega)
        have h3 := srch_in q _ i ((i + j) / 2) rfl (by omega)
        refine ⟨h1, fun _ => ?_⟩
        by_cases h : srch q i ((i + j) / 2) < (i + j) / 2
        · exact h2 h
        · rw [show srch q i ((i + j) / 2) = (i + j) / 2 by omega]; simpa using hq
    · exact ⟨fun h => by omega, fun h => by omega⟩
/-- Moves of one element. -/
theorem mvR_is : ∀ (v A B : List Nat) (x k n : Nat), k = A.length → n = v.length → mvR k n (A ++ x :: (v ++ B)) = A ++ (v ++ x :: B)
  | [], A, B, x, k, n, hk, hn => by subst hn; rfl
  | y :: v, A, B, x, k, n, hk, hn => by
    subst hn
    show mvR (k + 1) v.length (sw (A ++ x :: (y :: v ++ B)) k (k + 1)) = _
    rw [List.cons_append, sw_next' hk]
    have := mvR_is v (A ++ [y]) B x (k + 1) v.length (by simp [hk]) rfl
    simpa using this
theorem mvL_is : ∀ (n : Nat) (u A B : List Nat) (x k : Nat), k = A.length + u.length → n = u.length → mvL k n (A ++ (u ++ x :: B)) = A ++ x :: (u ++ B)
  | 0, u, A, B, x, k, hk, hn => by
    have : u = [] := List.length_eq_zero_iff.1 hn.symm
    subst this; rfl
  | n + 1, u, A, B, x, k, hk, hn => by
    have hne : u ≠ [] := by intro e; rw [e] at hn; simp at hn
    obtain ⟨u', y, rfl⟩ : ∃ u' y, u = u' ++ [y] := ⟨u.dropLast, u.getLast hne, (List.dropLast_concat_getLast hne).symm⟩
    have hl : n = u'.length := by simp at hn; exact hn
    have hk2 : k = (A ++ u').length + 1 := by simp at hk ⊢; omega
    show mvL (k - 1) n (sw (A ++ (u' ++ [y] ++ x :: B)) k (k - 1)) = _
    have e : A ++ (u' ++ [y] ++ x :: B) = (A ++ u') ++ y :: x :: B := by simp
    rw [e, hk2, Nat.add_sub_cancel, sw_next rfl]
    have := mvL_is n u' A (y :: B) x (A ++ u').length (by simp) hl
    simpa using this
/-- Two parts of one length change places. -/
theorem swR_is : ∀ (X Y A M B : List Nat) (a b i n : Nat), X.length = n → Y.length = n → a + i = A.length → b + i = A.length + n + M.length → swR a b i n (A ++ (X ++ (M ++ (Y ++ B)))) = A ++ (Y ++ (M ++ (X ++ B)))
  | [], [], A, M, B, a, b, i, n, hX, hY, ha, hb => by subst hX; rfl
  | [], y :: Y, A, M, B, a, b, i, n, hX, hY, ha, hb => by subst hX; simp at hY
  | x :: X, [], A, M, B, a, b, i, n, hX, hY, ha, hb => by subst hY; simp at hX
  | x :: X, y :: Y, A, M, B, a, b, i, n, hX, hY, ha, hb => by
    obtain ⟨k, rfl⟩ : ∃ k, n = k + 1 := ⟨X.length, by simpa using hX.symm⟩
    have hX' : X.length = k := by simpa using hX
    have hY' : Y.length = k := by simpa using hY
    show swR a b (i + 1) k (sw (A ++ (x :: X ++ (M ++ (y :: Y ++ B)))) (a + i) (b + i)) = _
    have e : A ++ (x :: X ++ (M ++ (y :: Y ++ B))) = A ++ x :: ((X ++ M) ++ y :: (Y ++ B)) := by simp
    rw [e, sw_mid ha (by simp; omega)]
    have := swR_is X Y (A ++ [y]) (M ++ [x]) B a b (i + 1) k hX' hY' (by simp; omega) (by simp; omega)
    simpa using this
/-- Two neighbours change places. -/
theorem rot_is : ∀ (f : Nat) (X Y A B : List Nat) (m : Nat), X.length + Y.length ≤ f → X ≠ [] → Y ≠ [] → m = A.length + X.length → rot m f X.length Y.length (A ++ (X ++ (Y ++ B))) = A ++ (Y ++ (X ++ B))
  | 0, X, Y, A, B, m, hf, hX, hY, hm => by have := List.length_pos_iff.2 hX; omega
  | f + 1, X, Y, A, B, m, hf, hX, hY, hm => by
    have hx := List.length_pos_iff.2 hX
    have hy := List.length_pos_iff.2 hY
    unfold rot
    split
    · rename_i he
      have := swR_is X Y A [] B (m - X.length) m 0 X.length rfl he.symm (by omega) (by simp; omega)
      simpa using this
    · rename_i hne
      split
      · rename_i hlt
        obtain ⟨X1, X2, hX12, hl1⟩ := cut_at (l := X) (k := Y.length) (by omega)
        have hl2 : X2.length = X.length - Y.length := by rw [hX12, List.length_append]; omega
        have h1 := swR_is X1 Y A X2 B (m - X.length) m 0 Y.length hl1 rfl (by omega) (by omega)
        have e : A ++ (X ++ (Y ++ B)) = A ++ (X1 ++ (X2 ++ (Y ++ B))) := by rw [hX12]; simp
        rw [e, h1, ← hl2]
        have h2 := rot_is f X2 X1 (A ++ Y) B m (by omega) (by intro e; rw [e] at hl2; simp at hl2; omega) (by intro e; rw [e] at hl1; simp at hl1; omega) (by simp; omega)
        rw [hl1] at h2
        rw [hX12]
        simpa using h2
      · rename_i hge
        obtain ⟨Y1, Y2, hY12, hl1⟩ := cut_at (l := Y) (k := Y.length - X.length) (by omega)
        have hl2 : Y2.length = X.length := by have h := congrArg List.length hY12; rw [List.length_append] at h; omega
        have h1 := swR_is X Y2 A Y1 B (m - X.length) (m + Y.length - X.length) 0 X.length rfl hl2 (by omega) (by omega)
        have e : A ++ (X ++ (Y ++ B)) = A ++ (X ++ (Y1 ++ (Y2 ++ B))) := by rw [hY12]; simp
        rw [e, h1, ← hl1]
        have h2 := rot_is f Y2 Y1 A (X ++ B) m (by omega) (by intro e; rw [e] at hl2; simp at hl2; omega) (by intro e; rw [e] at hl1; simp at hl1; omega) (by omega)
        rw [hl2] at h2
        rw [h2, hY12]
        simp
end Go.Proofs.Ytpablikcidlkaaa
