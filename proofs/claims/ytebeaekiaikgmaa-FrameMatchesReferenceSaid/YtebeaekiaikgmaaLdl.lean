/- Frames that are forged: contents, and lists that differ in one number. -/
import Derived.Test.YtebeaekiaikgmaaLa
namespace Go.Proofs.Ytebeaekiaikgmaa
open Go.RowKit

set_option maxRecDepth 100000 in
set_option maxHeartbeats 8000000 in
theorem conts_any (a b c d : Int) (sl : Value) (l : List Int) (t : Int) (w : World) (h : IntsAt w sl l) (h9 : l.length ≤ 5000) : Calls Try.prog 28 #[.agg #[.int .i64 a, .int .i64 b, .int .i64 c, .int .i64 d, sl, .int .i64 t]] w fun e w' => ∃ u, e = .returned u ∧ IntsAt w' u (cts a b c d l) ∧ Below w.heap.size w w' := by
  have HL0 := Lib.hid h
  obtain ⟨sa, sc, rfl, hm, -⟩ := h
  have HC0 := Lib.hid (Cs.new w w.heap.size #[.int .i64 a, .int .i64 b, .int .i64 c, .int .i64 d, .slice sa l.length sc, .int .i64 t] 24 rfl)
  have HB0 := Lib.hid (al w (.cells #[.int .i64 a, .int .i64 b, .int .i64 c, .int .i64 d, .slice sa l.length sc, .int .i64 t] 24))
  obtain ⟨v', w5, q5, ⟨p5, c5, rfl⟩, hi5, hb5⟩ := cts_run (w.alloc (.cells #[.int .i64 a, .int .i64 b, .int .i64 c, .int .i64 d, .slice sa l.length sc, .int .i64 t] 24)) a b c d (.slice sa l.length sc) l 22 (HL0.out.step HB0.out) h9 (w.heap.size + 1) (by simp)
  have HI5 := Lib.hid hi5
  have HB5 := Lib.hid (keep2 hb5 HB0.out)
  unfold maxLen at hm
  have HC1 := Lib.hid (HC0.out.alloc (.cells #[.int .i64 a, .int .i64 b, .int .i64 c, .int .i64 d, .int .i64 (l.length : Int)] 3))
  clear hi5 hb5
  have x0 := HC0.out.c 0 rfl
  have x1 := HC0.out.c 1 rfl
  have x2 := HC0.out.c 2 rfl
  have x3 := HC0.out.c 3 rfl
  have x4 := HC0.out.c 4 rfl
  have x5 := HC0.out.c 5 rfl
  have xz := HC0.out.2.2
  have y0 := HC1.out.c 0 rfl
  have y1 := HC1.out.c 1 rfl
  have y2 := HC1.out.c 2 rfl
  have y3 := HC1.out.c 3 rfl
  have y4 := HC1.out.c 4 rfl
  have y5 := HC1.out.c 5 rfl
  have yz := HC1.out.2.2
  go_enter Try.func28, Try.ntmps28
  go_wp2_with (at_builtin; refine wpList_appI rfl _ _ 22 rfl _ _ (.slice p5 (5 + l.length) c5) rfl rfl q5 ?_)
  go_ret
  exact ⟨_, rfl, HI5.out, HB5.out⟩
theorem cts_len (a b c d : Int) (l : List Int) : (cts a b c d l).length = 5 + l.length := by simp [cts]; omega
/-- The list of key, number of contents, and contents. -/
def kcl (key a b c d : Int) (l : List Int) : List Int := key :: ((cts a b c d l).length : Int) :: cts a b c d l
theorem kcl_len (key a b c d : Int) (l : List Int) : (kcl key a b c d l).length = 7 + l.length := by unfold kcl; simp [cts_len]; omega
theorem kcl_dg (key a b c d : Int) (l : List Int) : Dg (kcl key a b c d l) = tgF key a b c d l := rfl
/-- How many numbers of two lists differ. -/
def dfN (p q : List Int) : Nat → Nat
  | 0 => 0
  | k + 1 => if p.getD k 0 = q.getD k 0 then dfN p q k else dfN p q k + 1
theorem df_le (p q : List Int) : ∀ k, dfN p q k ≤ k
  | 0 => Nat.le_refl _
  | k + 1 => by
    have := df_le p q k
    unfold dfN
    split <;> omega
theorem df_zero (p q : List Int) : ∀ k, dfN p q k = 0 → ∀ j, j < k → p.getD j 0 = q.getD j 0
  | 0, _, j, h => by omega
  | k + 1, h, j, hj => by
    unfold dfN at h
    split at h
    · rename_i e
      by_cases hk : j = k
      · subst hk; exact e
      · exact df_zero p q k h j (by omega)
    · omega
theorem df_one (p q : List Int) : ∀ k, dfN p q k = 1 → ∃ i, i < k ∧ p.getD i 0 ≠ q.getD i 0 ∧ ∀ j, j < k → j ≠ i → p.getD j 0 = q.getD j 0
  | 0, h => by cases h
  | k + 1, h => by
    unfold dfN at h
    split at h
    · rename_i e
      obtain ⟨i, h1, h2, h3⟩ := df_one p q k h
      refine ⟨i, by omega, h2, fun j hj hji => ?_⟩
      by_cases hk : j = k
      · subst hk; exact e
      · exact h3 j (by omega) hji
    · rename_i e
      exact ⟨k, by omega, e, fun j hj hji => df_zero p q k (by omega) j (by omega)⟩
theorem list_ext {p q : List Int} (hl : p.length = q.length) (h : ∀ j, j < p.length → p.getD j 0 = q.getD j 0) : p = q := by
  apply List.ext_getElem hl
  intro j h1 h2
  have := h j h1
  rwa [show p.getD j 0 = p[j] by simp [h1], show q.getD j 0 = q[j] by simp [h2]] at this
/-- Lists that differ in one number only have different digests, if that number is small. -/
theorem dg_one {p q : List Int} (hl : p.length = q.length) (h : dfN p q p.length = 1) (hs : ∀ i, i < p.length → p.getD i 0 % 2147483647 = q.getD i 0 % 2147483647 → p.getD i 0 = q.getD i 0) : Dg p ≠ Dg q := by
  obtain ⟨i, h1, h2, h3⟩ := df_one p q _ h
  have ep : p = p.take i ++ p.getD i 0 :: p.drop (i + 1) := by
    rw [show p.getD i 0 = p[i] by simp [h1], ← List.drop_eq_getElem_cons h1, List.take_append_drop]
  have eq : q = p.take i ++ q.getD i 0 :: p.drop (i + 1) := by
    apply list_ext
    · rw [← hl]; simp; omega
    · intro j hj
      rw [← hl] at hj
      by_cases e : j = i
      · subst e
        rw [List.getD_eq_getElem?_getD (l := p.take j ++ _), List.getElem?_append_right (by simp; omega)]
        simp [show min j p.length = j by omega]
      · rw [← h3 j hj e]
        rw [List.getD_eq_getElem?_getD, List.getD_eq_getElem?_getD]
        by_cases hlt : j < i
        · rw [List.getElem?_append_left (by simp; omega), List.getElem?_take_of_lt hlt]
        · rw [List.getElem?_append_right (by simp; omega)]
          rw [show (p.take i).length = i by simp; omega]
          obtain ⟨m, hm⟩ : ∃ m, j - i = m + 1 := ⟨j - i - 1, by omega⟩
          rw [hm, List.getElem?_cons_succ, List.getElem?_drop, show i + 1 + m = j by omega]
  intro he
  have h4 : Dg (p.take i ++ p.getD i 0 :: p.drop (i + 1)) = Dg (p.take i ++ q.getD i 0 :: p.drop (i + 1)) := by rw [← ep, ← eq]; exact he
  exact h2 (hs i h1 ((Dg_replace _ _ _ _).1 h4))
/-- The numbers of a sealed frame's list are small. -/
theorem kcl_small {key a b c d : Int} {l : List Int} (h : slB key a b c d l = true) : ∀ x ∈ kcl key a b c d l, -1000000000 ≤ x ∧ x ≤ 2147483646 := by
  unfold slB at h
  rw [Bool.and_eq_true] at h
  obtain ⟨ha, hb, hc, hd, hx, hl, -⟩ := va_parts h.2
  have hk := h.1
  unfold tgB at hk
  rw [Bool.and_eq_true, decide_eq_true_iff, decide_eq_true_iff] at hk
  intro x hm
  unfold kcl cts at hm
  simp only [List.mem_cons] at hm
  have hcl := cts_len a b c d l
  rcases hm with rfl | rfl | rfl | rfl | rfl | rfl | rfl | hm
  · omega
  · rw [show (a :: b :: c :: d :: (l.length : Int) :: l).length = 5 + l.length by simp; omega]; omega
  · omega
  · omega
  · omega
  · omega
  · omega
  · obtain ⟨i, hi, rfl⟩ := List.getElem_of_mem hm
    have := any_no hx hi
    rw [show l.getD i 0 = l[i] by simp [hi]] at this
    omega
theorem small_eq {x y : Int} (hx : -1000000000 ≤ x ∧ x ≤ 2147483646) (hy : -1000000000 ≤ y ∧ y ≤ 2147483646) (hf : 0 ≤ x ∧ 0 ≤ y ∨ x ≤ 1000000000 ∧ y ≤ 1000000000) (h : x % 2147483647 = y % 2147483647) : x = y := by omega
/-- A list of numbers in a block of one's own. -/
def RowI (n0 : Nat) (v : Value) (l : List Int) (w : World) : Prop := w.ownsRow n0 3 1 v l.length (l.map (Value.int .i64))
theorem RowI.step {n0 : Nat} {v : Value} {l : List Int} {w w' : World} (h : RowI n0 v l w) (hb : Below w.heap.size w w') : RowI n0 v l w' := row_step h hb
theorem RowI.ints {n0 : Nat} {v : Value} {l : List Int} {w : World} (h : RowI n0 v l w) : IntsAt w v l := ints_of_row h
theorem sum_any (v : Value) (l : List Int) (w : World) (h : IntsAt w v l) : Calls Try.prog 29 #[v] w fun e w' => e = .returned (.int .i64 (Dg l)) ∧ w = w' := by
  have H := Lib.hid h
  obtain ⟨a, cap, rfl, -, -⟩ := h
  go_enter Try.func29, Try.ntmps29
  go_wp2_with fail
  refine (digest_any _ l _ H.out).mono ?_
  rintro e w' ⟨rfl, rfl⟩
  go_wp2
  go_ret
  exact ⟨rfl, rfl⟩
theorem row2 (w : World) (k n : Int) : (w.alloc (.cells #[.int .i64 k, .int .i64 n] 3)).ownsRow w.heap.size 3 1 (.slice (some ⟨w.heap.size, 0, none⟩) 2 2) 2 [.int .i64 k, .int .i64 n] :=
  ⟨rfl, .inr ⟨w.heap.size, 2, _, rfl, Nat.le_refl _, heap_alloc_new _ _, by omega, by unfold maxLen; omega, rfl, rfl⟩⟩
set_option maxRecDepth 100000 in
set_option maxHeartbeats 8000000 in
theorem rtg_any (key : Int) (v : Value) (l : List Int) (w : World) (h : IntsAt w v l) (hl : l.length ≤ 5000) : Calls Try.prog 27 #[.int .i64 key, v] w fun e w' => ∃ u, e = .returned u ∧ RowI w.heap.size u (key :: (l.length : Int) :: l) w' ∧ Below w.heap.size w w' := by
  obtain ⟨v', w', h1, h2, h3⟩ := run_appI _ w.heap.size 2 _ v _ l 22 (row2 w key l.length) (h.step (al _ _)) (by omega) (by simp)
  have HB := Lib.hid ((al w (.cells #[.int .i64 key, .int .i64 (l.length : Int)] 3)).grown h3 (by simp) (fun k e => by cases e; exact Nat.le_refl _))
  have HR := Lib.hid (show RowI w.heap.size v' (key :: (l.length : Int) :: l) w' from by
    unfold RowI
    rw [show (key :: (l.length : Int) :: l).length = 2 + l.length by simp; omega]
    exact h2)
  obtain ⟨a, cap, rfl, hm, -⟩ := h
  unfold maxLen at hm
  obtain ⟨ra, rc, rfl⟩ := row_slice h2
  clear h2 h3
  go_enter Try.func27, Try.ntmps27
  go_wp2_with (at_builtin; refine wpList_appI rfl _ _ 22 rfl _ _ (.slice ra (2 + l.length) rc) rfl rfl h1 ?_)
  go_ret
  exact ⟨_, rfl, HR.out, HB.out⟩
theorem kcl_pos {key a b c d : Int} {l : List Int} (h : slB key a b c d l = true) : (0 ≤ key ∧ key ≤ 2147483646) ∧ ∀ x ∈ ((cts a b c d l).length : Int) :: cts a b c d l, -1000000000 ≤ x ∧ x ≤ 1000000000 := by
  unfold slB at h
  rw [Bool.and_eq_true] at h
  obtain ⟨ha, hb, hc, hd, hx, hl, -⟩ := va_parts h.2
  have hk := h.1
  unfold tgB at hk
  rw [Bool.and_eq_true, decide_eq_true_iff, decide_eq_true_iff] at hk
  refine ⟨hk, fun x hm => ?_⟩
  have hcl := cts_len a b c d l
  rcases List.mem_cons.1 hm with rfl | hm
  · omega
  · unfold cts at hm
    simp only [List.mem_cons] at hm
    rcases hm with rfl | rfl | rfl | rfl | rfl | hm
    · omega
    · omega
    · omega
    · omega
    · omega
    · obtain ⟨i, hi, rfl⟩ := List.getElem_of_mem hm
      have := any_no hx hi
      rw [show l.getD i 0 = l[i] by simp [hi]] at this
      omega
/-- What the law says of two such lists. -/
theorem forged_facts {k1 a b c d k2 a' b' c' d' : Int} {l l' : List Int} (h : slB k1 a b c d l = true) (h' : slB k2 a' b' c' d' l' = true) (hl : l.length = l'.length) :
    (dfN (kcl k1 a b c d l) (kcl k2 a' b' c' d' l') (kcl k1 a b c d l).length = 1 → tgF k1 a b c d l ≠ tgF k2 a' b' c' d' l') ∧ (dfN (kcl k1 a b c d l) (kcl k2 a' b' c' d' l') (kcl k1 a b c d l).length = 0 → tgF k1 a b c d l = tgF k2 a' b' c' d' l') := by
  have hlen : (kcl k1 a b c d l).length = (kcl k2 a' b' c' d' l').length := by rw [kcl_len, kcl_len, hl]
  obtain ⟨p1, p2⟩ := kcl_pos h
  obtain ⟨q1, q2⟩ := kcl_pos h'
  constructor
  · intro h1
    refine dg_one hlen h1 fun i hi he => ?_
    rcases i with _ | i
    · have he2 : k1 % 2147483647 = k2 % 2147483647 := he
      show k1 = k2
      omega
    · have hi2 : i + 1 < (kcl k1 a b c d l).length := hi
      rw [kcl_len] at hi2
      have he2 : (((cts a b c d l).length : Int) :: cts a b c d l).getD i 0 % 2147483647 = (((cts a' b' c' d' l').length : Int) :: cts a' b' c' d' l').getD i 0 % 2147483647 := he
      show (((cts a b c d l).length : Int) :: cts a b c d l).getD i 0 = (((cts a' b' c' d' l').length : Int) :: cts a' b' c' d' l').getD i 0
      have g1 := p2 _ (List.mem_of_getElem? (getD_of (l := ((cts a b c d l).length : Int) :: cts a b c d l) (k := i) (by simp only [List.length_cons, cts_len]; omega)))
      have g2 := q2 _ (List.mem_of_getElem? (getD_of (l := ((cts a' b' c' d' l').length : Int) :: cts a' b' c' d' l') (k := i) (by simp only [List.length_cons, cts_len]; omega)))
      omega
  · intro h0
    have := list_ext hlen (df_zero _ _ _ h0)
    rw [← kcl_dg, ← kcl_dg, this]
theorem ints_apart6 {w : World} {v : Value} {l : List Int} {g : Nat} (h : IntsAt w v l) (hn : l ≠ [] → ∀ b o n c, v = .slice (some ⟨b, o, none⟩) n c → b ≠ g) (j : Nat) (x : Value) : IntsAt (w.setCell ⟨g, j, none⟩ x) v l := by
  obtain ⟨a, cap, rfl, hm, hc⟩ := h
  refine ⟨a, cap, rfl, hm, fun hl => ?_⟩
  obtain ⟨b, off, rfl, hx⟩ := hc hl
  have hne := hn hl b off _ _ rfl
  exact ⟨b, off, rfl, fun i y h => (World.cell?_of_block (a := ⟨b, off + i, none⟩) (Below.heap_setCell w ⟨g, j, none⟩ x b hne)).trans (hx i y h)⟩
theorem ints_lt {w : World} {v : Value} {l : List Int} (h : IntsAt w v l) (hl : l ≠ []) (b o n c : Nat) (hv : v = .slice (some ⟨b, o, none⟩) n c) : b < w.heap.size := by
  obtain ⟨a, cap, he, -, hc⟩ := h
  obtain ⟨b', off, ha, hx⟩ := hc hl
  rw [hv, ha] at he
  have e : (some (⟨b, o, none⟩ : Addr)) = some ⟨b', off, none⟩ := by simp at he; simp [he]
  cases e
  have hp := List.length_pos_iff.2 hl
  exact World.block_lt_of_cell? _ _ (hx 0 _ (getD_of hp))
end Go.Proofs.Ytebeaekiaikgmaa
