/- Shedding: who is lost first. -/
import Derived.Test.YtpablikcidlkaaaTb
namespace Go.Proofs.Ytpablikcidlkaaa
open Go.RowKit

def befB (P : Nat → Int) (i j : Nat) : Bool := decide (P j < P i) || (decide (P i = P j) && decide (i < j))
theorem befB_iff {P : Nat → Int} {i j : Nat} : befB P i j = true ↔ bef P i j := by unfold befB bef; simp
theorem kfo_sum_pre (l : List (Int × Int)) (lim : Nat → Int) : ∀ (n : Nat) (pre post : List Nat), pre.length = n → ordL (pri l) l.length = pre ++ post →
    (kfo l lim pre).1 = (pre.map fun i => if (kpL l lim).getD i false = true then pow l i else 0).sum
  | 0, pre, post, hn, he => by
    have : pre = [] := List.length_eq_zero_iff.1 hn
    subst this; rfl
  | n + 1, pre, post, hn, he => by
    obtain ⟨p', y, rfl⟩ : ∃ p' y, pre = p' ++ [y] := by
      have hne : pre ≠ [] := by intro e; rw [e] at hn; simp at hn
      exact ⟨pre.dropLast, pre.getLast hne, (List.dropLast_concat_getLast hne).symm⟩
    have he2 : ordL (pri l) l.length = p' ++ y :: post := by rw [he]; simp
    have h := kfo_sum_pre l lim n p' (y :: post) (by simp at hn; omega) he2
    have hs := ord_is (pri l) l.length
    have hnd := hs.2.nodup
    have hy : y < l.length := (hs.mem (x := y) (by rw [he2]; simp)).2
    rw [he2] at hnd
    have hn1 : y ∉ p' := fun hm => (List.nodup_append.1 hnd).2.2 y hm y (by simp) rfl
    have hn2 : y ∉ post := (List.nodup_cons.1 (List.nodup_append.1 hnd).2.1).1
    have hg : (kpL l lim).getD y false = decide ((kfo l lim p').1 + pow l y ≤ lim y) := by
      show ((kfo l lim (ordL (pri l) l.length)).2).getD y false = _
      rw [he2]
      exact kfo_get l _ y p' post hy hn1 hn2
    rw [kfo_snoc, List.map_append, List.sum_append, ← h]
    unfold kst
    by_cases hc : (kfo l lim p').1 + pow l y ≤ lim y
    · rw [if_pos hc]
      simp only [List.map_cons, List.map_nil, List.sum_cons, List.sum_nil]
      rw [hg, decide_eq_true hc]
      simp
    · rw [if_neg hc]
      simp only [List.map_cons, List.map_nil, List.sum_cons, List.sum_nil]
      rw [hg, decide_eq_false hc]
      simp
/-- With more room none is lost sooner. -/
theorem room_pre (l : List (Int × Int)) (x y : Int) (hxy : x ≤ y) (hp : ∀ i, 0 ≤ pow l i) (j : Nat) (hj : j < l.length) (hK : (kpL l fun _ => y).getD j false = false) :
    ∃ i, i < l.length ∧ (kpL l fun _ => x).getD i false = false ∧ (i = j ∨ bef (pri l) i j) := by
  apply Classical.byContradiction
  intro hno
  have hall : ∀ i, i < l.length → (i = j ∨ bef (pri l) i j) → (kpL l fun _ => x).getD i false = true := fun i hi hb => by
    cases hc : (kpL l fun _ => x).getD i false with
    | true => rfl
    | false => exact absurd ⟨i, hi, hc, hb⟩ hno
  have hs := ord_is (pri l) l.length
  have hmem : j ∈ ordL (pri l) l.length := hs.1.symm.subset (by rw [List.mem_range'_1]; omega)
  obtain ⟨pre, post, he⟩ := List.append_of_mem hmem
  have hnd := hs.2.nodup
  have hsr := hs.2
  rw [he] at hnd hsr
  have hn1 : j ∉ pre := fun hm => (List.nodup_append.1 hnd).2.2 j hm j (by simp) rfl
  have hn2 : j ∉ post := (List.nodup_cons.1 (List.nodup_append.1 hnd).2.1).1
  have hg : ∀ z : Int, (kpL l fun _ => z).getD j false = decide ((kfo l (fun _ => z) pre).1 + pow l j ≤ z) := fun z => by
    show ((kfo l (fun _ => z) (ordL (pri l) l.length)).2).getD j false = _
    rw [he]
    exact kfo_get l _ j pre post hj hn1 hn2
  have h1 := hall j hj (.inl rfl)
  rw [hg x, decide_eq_true_eq] at h1
  rw [hg y, decide_eq_false_iff_not] at hK
  have h2 := kfo_sum_pre l (fun _ => x) _ pre (j :: post) rfl he
  have h3 : (pre.map fun i => if (kpL l fun _ => x).getD i false = true then pow l i else 0) = pre.map fun i => pow l i := by
    apply List.map_congr_left
    intro i hi
    have hb : bef (pri l) i j := (List.pairwise_append.1 hsr).2.2 i hi j (by simp)
    have hil : i < l.length := (hs.mem (x := i) (by rw [he]; simp [hi])).2
    rw [hall i hil (.inr hb)]
    simp
  rw [h3] at h2
  have h4 := kfo_pre_le l (fun _ => y) hp pre
  omega
def lostK (l : List (Int × Int)) (K : List Bool) : Nat → Int
  | 0 => -1
  | k + 1 => if (!K.getD k false && (decide (lostK l K k < 0) || befB (pri l) k (lostK l K k).toNat)) = true then (k : Int) else lostK l K k
/-- Whom the law calls lost. -/
def LostP (l : List (Int × Int)) (K : List Bool) (n : Nat) (L : Int) : Prop :=
  (L = -1 ∧ ∀ j, j < n → K.getD j false = true) ∨ ∃ i : Nat, i < n ∧ L = i ∧ K.getD i false = false ∧ ∀ j, j < n → K.getD j false = false → j = i ∨ bef (pri l) i j
theorem lost_is (l : List (Int × Int)) (K : List Bool) : ∀ n, LostP l K n (lostK l K n)
  | 0 => .inl ⟨rfl, fun j h => by omega⟩
  | n + 1 => by
    have ih := lost_is l K n
    unfold lostK
    cases hk : K.getD n false with
    | true =>
      simp only [Bool.not_true, Bool.false_and]
      rw [if_neg (by simp)]
      rcases ih with ⟨h1, h2⟩ | ⟨i, h1, h2, h3, h4⟩
      · exact .inl ⟨h1, fun j hj => by
          by_cases e : j = n
          · subst e; exact hk
          · exact h2 j (by omega)⟩
      · exact .inr ⟨i, by omega, h2, h3, fun j hj hjk => by
          by_cases e : j = n
          · subst e; rw [hk] at hjk; cases hjk
          · exact h4 j (by omega) hjk⟩
    | false =>
      simp only [Bool.not_false, Bool.true_and]
      rcases ih with ⟨h1, h2⟩ | ⟨i, h1, h2, h3, h4⟩
      · rw [h1, if_pos (by simp)]
        exact .inr ⟨n, by omega, rfl, hk, fun j hj hjk => by
          by_cases e : j = n
          · exact .inl e
          · rw [h2 j (by omega)] at hjk; cases hjk⟩
      · rw [h2, Int.toNat_natCast]
        have hd : decide ((i : Int) < 0) = false := by simp
        rw [hd, Bool.false_or]
        cases hb : befB (pri l) n i with
        | true =>
          rw [if_pos rfl]
          have hb := befB_iff.1 hb
          exact .inr ⟨n, by omega, rfl, hk, fun j hj hjk => by
            by_cases e : j = n
            · exact .inl e
            · rcases h4 j (by omega) hjk with e2 | e2
              · subst e2; exact .inr hb
              · exact .inr (bef_tr hb e2)⟩
        | false =>
          rw [if_neg (by simp)]
          exact .inr ⟨i, by omega, rfl, h3, fun j hj hjk => by
            by_cases e : j = n
            · subst e
              rcases bef_tot (P := pri l) (x := i) (y := j) (by omega) with h | h
              · exact .inr h
              · rw [befB_iff.2 h] at hb; cases hb
            · exact h4 j (by omega) hjk⟩
theorem lostK_in (l : List (Int × Int)) (K : List Bool) (n : Nat) : -1 ≤ lostK l K n ∧ lostK l K n < n ∧ (lostK l K n < 0 ∨ ∃ i : Nat, i < n ∧ lostK l K n = i) := by
  rcases lost_is l K n with ⟨h1, h2⟩ | ⟨i, h1, h2, -⟩
  · rw [h1]; exact ⟨by omega, by omega, .inl (by omega)⟩
  · rw [h2]; exact ⟨by omega, by omega, .inr ⟨i, h1, rfl⟩⟩
theorem room_is (l : List (Int × Int)) (x y : Int) (hxy : x ≤ y) (hp : ∀ i, 0 ≤ pow l i) :
    lostK l (kpL l fun _ => y) l.length < 0 ∨ ∃ i j : Nat, i < l.length ∧ j < l.length ∧ lostK l (kpL l fun _ => x) l.length = i ∧ lostK l (kpL l fun _ => y) l.length = j ∧ (i = j ∨ befB (pri l) i j = true) := by
  rcases lost_is l (kpL l fun _ => y) l.length with ⟨h1, h2⟩ | ⟨j, h1, h2, h3, h4⟩
  · exact .inl (by rw [h1]; omega)
  · obtain ⟨i', g1, g2, g3⟩ := room_pre l x y hxy hp j h1 h3
    rcases lost_is l (kpL l fun _ => x) l.length with ⟨q1, q2⟩ | ⟨i, q1, q2, q3, q4⟩
    · rw [q2 i' g1] at g2; cases g2
    · refine .inr ⟨i, j, q1, h1, q2, h2, ?_⟩
      rcases q4 i' g1 g2 with e | e
      · subst e
        rcases g3 with e2 | e2
        · exact .inl e2
        · exact .inr (befB_iff.2 e2)
      · rcases g3 with e2 | e2
        · subst e2; exact .inr (befB_iff.2 e)
        · exact .inr (befB_iff.2 (bef_tr e e2))
set_option maxRecDepth 100000 in
set_option maxHeartbeats 4000000 in
theorem first_any (v : Value) (l : List (Int × Int)) (i j : Nat) (w : World) (h : ConsAt w v l) (hi : i < l.length) (hj : j < l.length) (_hl : l.length ≤ 60) :
    Calls Try.prog 18 #[v, .int .i64 i, .int .i64 j] w fun e w' => e = .returned (.bool (befB (pri l) i j)) ∧ Below w.heap.size w w' := by
  obtain ⟨va, vc, rfl, -, -, hcs⟩ := h
  obtain ⟨b, off, rfl, hx⟩ := hcs (by intro e; rw [e] at hi; simp at hi)
  obtain ⟨-, x1⟩ := hx i _ (win_get (d := (0, 0)) hi)
  obtain ⟨-, y1⟩ := hx j _ (win_get (d := (0, 0)) hj)
  replace x1 : w.cell? ⟨b, off + i * 2 + 1, none⟩ = some (.int .i64 (pri l i)) := x1
  replace y1 : w.cell? ⟨b, off + j * 2 + 1, none⟩ = some (.int .i64 (pri l j)) := y1
  have zb : b < w.heap.size := World.block_lt_of_cell? _ _ x1
  have t1 : (i : Int) < (l.length : Int) := by omega
  have t2 : (j : Int) < (l.length : Int) := by omega
  have HR := Lib.hid (show befB (pri l) i j = (decide (pri l j < pri l i) || (decide (pri l i = pri l j) && decide (i < j))) from rfl)
  clear hx hcs
  generalize befB (pri l) i j = B at *
  generalize pri l i = p at *
  generalize pri l j = q at *
  by_cases c1 : q < p
  · have HB := Lib.hid (show B = true by rw [HR.out]; simp [c1])
    have c1b : decide (q < p) = true := decide_eq_true c1
    go_enter Try.func18, Try.ntmps18
    go_wp2_with fail
    go_quiet (fail)
    go_wp2
    go_ret
    exact ⟨ret_bool HB.out.symm, below_drewN' _ _ _⟩
  · have c1b : decide (q < p) = false := decide_eq_false c1
    by_cases c2 : p = q
    · subst c2
      by_cases c3 : i < j
      · have HB := Lib.hid (show B = true by rw [HR.out]; simp [c3])
        have c3c : (i : Int) < (j : Int) := by omega
        have c3b : decide ((i : Int) < (j : Int)) = true := decide_eq_true c3c
        go_enter Try.func18, Try.ntmps18
        go_wp2_with fail
        go_quiet (fail)
        go_wp2
        go_ret
        exact ⟨ret_bool HB.out.symm, below_drewN' _ _ _⟩
      · have HB := Lib.hid (show B = false by rw [HR.out]; simp; omega)
        have c3c : ¬ (i : Int) < (j : Int) := by omega
        have c3b : decide ((i : Int) < (j : Int)) = false := decide_eq_false c3c
        go_enter Try.func18, Try.ntmps18
        go_wp2_with fail
        go_quiet (fail)
        go_wp2
        go_ret
        exact ⟨ret_bool HB.out.symm, below_drewN' _ _ _⟩
    · have HB := Lib.hid (show B = false by rw [HR.out, c1b]; simp [c2])
      have c2b : (p == q) = false := by simpa using c2
      have c2d : decide (p = q) = false := decide_eq_false c2
      go_enter Try.func18, Try.ntmps18
      go_wp2_with fail
      go_quiet (fail)
      go_wp2
      go_ret
      exact ⟨ret_bool HB.out.symm, below_drewN' _ _ _⟩
end Go.Proofs.Ytpablikcidlkaaa
