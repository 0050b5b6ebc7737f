/- Sets of tags: plain facts on increasing lists, their merging, and the insertion into one. -/
import Derived.Test.YtoaleijfpocdjaaKa
namespace Go.Proofs.Ytoaleijfpocdjaa
open Go.RowKit

/-- Increasing tags from a bound on. -/
def inc : Int → List Int → Bool
  | _, [] => true
  | lo, x :: l => decide (lo ≤ x) && (decide (x ≤ 2147483646) && inc (x + 1) l)
def stB (l : List Int) : Bool := inc 0 l && decide (l.length ≤ 400)
theorem inc_cons (lo x : Int) (l : List Int) : inc lo (x :: l) = (decide (lo ≤ x) && (decide (x ≤ 2147483646) && inc (x + 1) l)) := rfl
theorem inc_iff : ∀ (l : List Int) (lo : Int), inc lo l = true ↔ (∀ x ∈ l, lo ≤ x ∧ x ≤ 2147483646) ∧ l.Pairwise (· < ·)
  | [], lo => by simp [inc]
  | x :: l, lo => by
    rw [inc_cons, Bool.and_eq_true, Bool.and_eq_true, inc_iff l (x + 1), decide_eq_true_eq, decide_eq_true_eq, List.pairwise_cons]
    constructor
    · rintro ⟨h1, h2, h3, h4⟩
      refine ⟨fun y hy => ?_, fun y hy => by have := (h3 y hy).1; omega, h4⟩
      rcases List.mem_cons.1 hy with rfl | hy
      · exact ⟨h1, h2⟩
      · have := h3 y hy; omega
    · rintro ⟨h1, h2, h3⟩
      refine ⟨(h1 x (by simp)).1, (h1 x (by simp)).2, fun y hy => ⟨by have := h2 y hy; omega, (h1 y (by simp [hy])).2⟩, h3⟩
theorem inc_drop {lo : Int} {l : List Int} {k : Nat} (h : k < l.length) : inc lo (l.drop k) = (decide (lo ≤ l.getD k 0) && (decide (l.getD k 0 ≤ 2147483646) && inc (l.getD k 0 + 1) (l.drop (k + 1)))) := by
  rw [List.drop_eq_getElem_cons h, inc_cons]; simp [h]
/-- A tag. -/
def tgB (n : Int) : Bool := inr n 0 2147483646
/-- Both lists, each tag once. -/
def mg : List Int → List Int → List Int
  | [], r => r
  | x :: l, [] => x :: mg l []
  | x :: l, y :: r => if x < y then x :: mg l (y :: r) else if y < x then y :: mg (x :: l) r else mg (x :: l) r
termination_by a b => a.length + b.length
theorem mg_nil (r : List Int) : mg [] r = r := by simp [mg]
theorem mg_cons_nil (x : Int) (l : List Int) : mg (x :: l) [] = x :: mg l [] := by simp [mg]
theorem mg_gt {x y : Int} (l r : List Int) (h : x < y) : mg (x :: l) (y :: r) = x :: mg l (y :: r) := by rw [mg]; simp [h]
theorem mg_lt {x y : Int} (l r : List Int) (h : y < x) : mg (x :: l) (y :: r) = y :: mg (x :: l) r := by
  rw [mg, if_neg (by omega), if_pos h]
theorem mg_eq {x y : Int} (l r : List Int) (h : y = x) : mg (x :: l) (y :: r) = mg (x :: l) r := by
  rw [mg, if_neg (by omega), if_neg (by omega)]
theorem mem_mg (a b : List Int) (z : Int) : z ∈ mg a b ↔ z ∈ a ∨ z ∈ b := by
  fun_induction mg a b with
  | case1 r => simp
  | case2 x l ih => simp [ih]
  | case3 x l y r h ih => simp [ih, or_assoc]
  | case4 x l y r h1 h2 ih =>
    rw [List.mem_cons, ih, List.mem_cons (b := y)]
    constructor
    · rintro (hz | hz | hz)
      · exact .inr (.inl hz)
      · exact .inl hz
      · exact .inr (.inr hz)
    · rintro (hz | hz | hz)
      · exact .inr (.inl hz)
      · exact .inl hz
      · exact .inr (.inr hz)
  | case5 x l y r h1 h2 ih =>
    have : x = y := by omega
    subst this
    rw [ih, List.mem_cons, List.mem_cons]
    constructor
    · rintro (hz | hz)
      · exact .inl hz
      · exact .inr (.inr hz)
    · rintro (hz | hz | hz)
      · exact .inl hz
      · exact .inl (.inl hz)
      · exact .inr hz
theorem mg_len (a b : List Int) : (mg a b).length ≤ a.length + b.length := by
  fun_induction mg a b with
  | case1 r => simp
  | case2 x l ih => simp at ih ⊢; omega
  | case3 x l y r h ih => simp at ih ⊢; omega
  | case4 x l y r h1 h2 ih => simp at ih ⊢; omega
  | case5 x l y r h1 h2 ih => simp at ih ⊢; omega
theorem mg_inc (a b : List Int) (ha : a.Pairwise (· < ·)) (hb : b.Pairwise (· < ·)) : (mg a b).Pairwise (· < ·) := by
  fun_induction mg a b with
  | case1 r => exact hb
  | case2 x l ih =>
    rw [List.pairwise_cons] at ha ⊢
    exact ⟨fun z hz => by rw [mem_mg] at hz; rcases hz with hz | hz; exact ha.1 z hz; simp at hz, ih ha.2 hb⟩
  | case3 x l y r h ih =>
    rw [List.pairwise_cons] at ha ⊢
    refine ⟨fun z hz => ?_, ih ha.2 hb⟩
    rw [mem_mg] at hz
    rcases hz with hz | hz
    · exact ha.1 z hz
    · rw [List.pairwise_cons] at hb
      rcases List.mem_cons.1 hz with rfl | hz
      · exact h
      · have := hb.1 z hz; omega
  | case4 x l y r h1 h2 ih =>
    rw [List.pairwise_cons] at hb ⊢
    refine ⟨fun z hz => ?_, ih ha hb.2⟩
    rw [mem_mg] at hz
    rcases hz with hz | hz
    · rw [List.pairwise_cons] at ha
      rcases List.mem_cons.1 hz with rfl | hz
      · exact h2
      · have := ha.1 z hz; omega
    · exact hb.1 z hz
  | case5 x l y r h1 h2 ih =>
    rw [List.pairwise_cons] at hb
    exact ih ha hb.2
/-- Increasing lists with the same elements are the same. -/
theorem inc_ext : ∀ {a b : List Int}, a.Pairwise (· < ·) → b.Pairwise (· < ·) → (∀ z, z ∈ a ↔ z ∈ b) → a = b
  | [], [], _, _, _ => rfl
  | [], y :: b, _, _, h => absurd ((h y).2 (by simp)) (by simp)
  | x :: a, [], _, _, h => absurd ((h x).1 (by simp)) (by simp)
  | x :: a, y :: b, ha, hb, h => by
    rw [List.pairwise_cons] at ha hb
    have e : x = y := by
      have h1 := (h x).1 (by simp)
      have h2 := (h y).2 (by simp)
      rcases List.mem_cons.1 h1 with h1 | h1
      · exact h1
      · rcases List.mem_cons.1 h2 with h2 | h2
        · exact h2.symm
        · have := ha.1 y h2; have := hb.1 x h1; omega
    subst e
    rw [inc_ext ha.2 hb.2 fun z => ?_]
    constructor
    · intro hz
      rcases List.mem_cons.1 ((h z).1 (by simp [hz])) with e | hz'
      · subst e; exact absurd (ha.1 z hz) (by omega)
      · exact hz'
    · intro hz
      rcases List.mem_cons.1 ((h z).2 (by simp [hz])) with e | hz'
      · subst e; exact absurd (hb.1 z hz) (by omega)
      · exact hz'
theorem st_iff {l : List Int} : stB l = true ↔ ((∀ x ∈ l, 0 ≤ x ∧ x ≤ 2147483646) ∧ l.Pairwise (· < ·)) ∧ l.length ≤ 400 := by
  unfold stB; rw [Bool.and_eq_true, inc_iff, decide_eq_true_eq]
theorem mg_st {a b : List Int} (ha : stB a = true) (hb : stB b = true) (h : (mg a b).length ≤ 400) : stB (mg a b) = true := by
  rw [st_iff] at *
  exact ⟨⟨fun x hx => by rcases (mem_mg a b x).1 hx with hx | hx; exact ha.1.1 x hx; exact hb.1.1 x hx, mg_inc a b ha.1.2 hb.1.2⟩, h⟩
theorem mg_comm {a b : List Int} (ha : stB a = true) (hb : stB b = true) : mg a b = mg b a := by
  rw [st_iff] at *
  exact inc_ext (mg_inc _ _ ha.1.2 hb.1.2) (mg_inc _ _ hb.1.2 ha.1.2) fun z => by rw [mem_mg, mem_mg]; exact or_comm
theorem mg_assoc {a b c : List Int} (ha : stB a = true) (hb : stB b = true) (hc : stB c = true) : mg (mg a b) c = mg a (mg b c) := by
  rw [st_iff] at *
  exact inc_ext (mg_inc _ _ (mg_inc _ _ ha.1.2 hb.1.2) hc.1.2) (mg_inc _ _ ha.1.2 (mg_inc _ _ hb.1.2 hc.1.2)) fun z => by rw [mem_mg, mem_mg, mem_mg, mem_mg]; exact or_assoc
theorem mg_self {a : List Int} (ha : stB a = true) : mg a a = a := by
  rw [st_iff] at *
  exact inc_ext (mg_inc _ _ ha.1.2 ha.1.2) ha.1.2 fun z => by rw [mem_mg]; simp
theorem st_one {n : Int} : stB [n] = tgB n := by
  rw [Bool.eq_iff_iff, st_iff]; unfold tgB; rw [inr_iff]; simp
/-- The insertion of a number that is not there. -/
def ins1 (n : Int) : List Int → List Int
  | [] => [n]
  | x :: l => if n < x then n :: x :: l else x :: ins1 n l
def insL (l : List Int) (n : Int) : List Int := if l.contains n then l else ins1 n l
theorem mem_ins1 (n z : Int) : ∀ l : List Int, z ∈ ins1 n l ↔ z = n ∨ z ∈ l
  | [] => by simp [ins1]
  | x :: l => by
    unfold ins1
    split
    · simp
    · rw [List.mem_cons, mem_ins1 n z l, List.mem_cons]; constructor <;> (intro h; rcases h with h | h | h <;> simp [h])
theorem mem_insL (n z : Int) (l : List Int) : z ∈ insL l n ↔ z = n ∨ z ∈ l := by
  unfold insL
  split
  · rename_i h
    have h : n ∈ l := by simpa using h
    constructor
    · exact .inr
    · rintro (rfl | h2); exact h; exact h2
  · exact mem_ins1 n z l
theorem ins1_len (n : Int) : ∀ l : List Int, (ins1 n l).length = l.length + 1
  | [] => rfl
  | x :: l => by unfold ins1; split <;> simp [ins1_len n l]
theorem insL_len (n : Int) (l : List Int) : (insL l n).length ≤ l.length + 1 := by
  unfold insL; split
  · exact Nat.le_succ _
  · rw [ins1_len]; exact Nat.le_refl _
theorem ins1_inc (n : Int) : ∀ l : List Int, l.Pairwise (· < ·) → n ∉ l → (ins1 n l).Pairwise (· < ·)
  | [], _, _ => by simp [ins1]
  | x :: l, h, hn => by
    rw [List.pairwise_cons] at h
    rw [List.mem_cons, not_or] at hn
    unfold ins1
    split
    · rename_i hx
      rw [List.pairwise_cons, List.pairwise_cons]
      exact ⟨fun z hz => by rcases List.mem_cons.1 hz with rfl | hz; exact hx; have := h.1 z hz; omega, h⟩
    · rename_i hx
      rw [List.pairwise_cons]
      exact ⟨fun z hz => by rw [mem_ins1] at hz; rcases hz with rfl | hz; omega; exact h.1 z hz, ins1_inc n l h.2 hn.2⟩
theorem insL_inc (n : Int) (l : List Int) (h : l.Pairwise (· < ·)) : (insL l n).Pairwise (· < ·) := by
  unfold insL; split
  · exact h
  · rename_i hc; exact ins1_inc n l h (by simpa using hc)
theorem insL_mg {l : List Int} {n : Int} (h : stB l = true) : insL l n = mg l [n] := by
  rw [st_iff] at h
  exact inc_ext (insL_inc _ _ h.1.2) (mg_inc _ _ h.1.2 (by simp)) fun z => by rw [mem_insL, mem_mg]; simp [or_comm]
theorem fold_ins (b : List Int) : ∀ (a : List Int), a.Pairwise (· < ·) → (b.foldl insL a).Pairwise (· < ·) ∧ ∀ z, z ∈ b.foldl insL a ↔ z ∈ a ∨ z ∈ b := by
  induction b with
  | nil => intro a h; simp [h]
  | cons y b ih =>
    intro a h
    obtain ⟨h1, h2⟩ := ih (insL a y) (insL_inc y a h)
    refine ⟨h1, fun z => ?_⟩
    rw [List.foldl_cons, h2, mem_insL, List.mem_cons]
    constructor
    · rintro ((hz | hz) | hz)
      · exact .inr (.inl hz)
      · exact .inl hz
      · exact .inr (.inr hz)
    · rintro (hz | hz | hz)
      · exact .inl (.inr hz)
      · exact .inl (.inl hz)
      · exact .inr hz
theorem fold_mg {a b : List Int} (ha : stB a = true) (hb : stB b = true) : b.foldl insL a = mg a b := by
  rw [st_iff] at *
  obtain ⟨h1, h2⟩ := fold_ins b a ha.1.2
  exact inc_ext h1 (mg_inc _ _ ha.1.2 hb.1.2) fun z => by rw [h2, mem_mg]
theorem fold_take {a b : List Int} {k : Nat} (h : k < b.length) : (b.take (k + 1)).foldl insL a = insL ((b.take k).foldl insL a) (b.getD k 0) := by
  rw [List.take_succ_eq_append_getElem h, List.foldl_append, show b.getD k 0 = b[k] by simp [h]]; rfl
theorem fold_len (b : List Int) : ∀ a : List Int, (b.foldl insL a).length ≤ a.length + b.length := by
  induction b with
  | nil => intro a; simp
  | cons y b ih =>
    intro a
    have h1 := ih (insL a y)
    have h2 := insL_len y a
    rw [List.foldl_cons, List.length_cons]; omega
end Go.Proofs.Ytoaleijfpocdjaa
