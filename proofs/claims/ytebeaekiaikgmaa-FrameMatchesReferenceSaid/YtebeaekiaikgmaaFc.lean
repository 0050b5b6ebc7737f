/- Frames as bytes: the writer. -/
import Derived.Test.YtebeaekiaikgmaaFb
namespace Go.Proofs.Ytebeaekiaikgmaa
open Go.RowKit

theorem row_lit {W : World} {n0 : Nat} (x : List Int) (cs : Array Value) (hc : cs.toList = x.map (Value.int .i64)) (hm : x.length ≤ 1000) (hn : n0 ≤ W.heap.size) (n : Nat) (hx : n = x.length) : (W.alloc (.cells cs 3)).ownsRow n0 3 1 (.slice (some ⟨W.heap.size, 0, none⟩) n n) x.length (x.map (Value.int .i64)) := by
  subst hx
  have hs : cs.size = x.length := by rw [← Array.length_toList, hc, List.length_map]
  exact ⟨by rw [List.length_map, Nat.mul_one], .inr ⟨W.heap.size, x.length, cs, rfl, hn, heap_alloc_new _ _, Nat.le_refl _, by unfold maxLen; omega, by rw [hs, Nat.mul_one], by rw [hc, Nat.mul_one, List.take_of_length_le (by rw [List.length_map]; exact Nat.le_refl _)]⟩⟩
/-- A buffer whose sum is that of its bytes. -/
def BufS (n0 B : Nat) (bs : List Int) (W : World) : Prop := Buf n0 B bs (sumL bs) W
theorem Buf.step {n0 B : Nat} {bs : List Int} {s : Int} {w w' : World} (h : Buf n0 B bs s w) (hb : Below w.heap.size w w') : Buf n0 B bs s w' := by
  obtain ⟨bv, h1, h2⟩ := h
  exact ⟨bv, h1.step hb, row_step h2 hb⟩
theorem BufS.step {n0 B : Nat} {bs : List Int} {w w' : World} (h : BufS n0 B bs w) (hb : Below w.heap.size w w') : BufS n0 B bs w' := Buf.step h hb
/-- 'put' of numbers just laid. -/
theorem puts_any (n0 B wd : Nat) (bs l : List Int) (cs : Array Value) (n : Nat) (W : World) (hb : BufS n0 B bs W) (hby : IsBy bs) (hB : B < n0) (hn : n0 ≤ W.heap.size) (h1 : 1 ≤ wd) (h4 : wd ≤ 4) (hcs : cs.toList = l.map (Value.int .i64)) (hl : l.length ≤ 40) (hnl : n = l.length) (hbl : bs.length ≤ 1000) (hnn : ∀ x ∈ l, 0 ≤ x ∧ x < 9223372036854775807) :
    Calls Try.prog 53 #[.pointer (some ⟨B, 0, none⟩), .int .i64 wd, .slice (some ⟨W.heap.size, 0, none⟩) n n] (W.alloc (.cells cs 3)) fun e w' => e = .returned (.tuple #[]) ∧ BufS n0 B (bs ++ encs wd l) w' ∧ Blw B n0 W w' := by
  have h := sumL_bd bs hby
  have hr := row_lit (W := W) (n0 := n0) l cs hcs (by omega) hn n hnl
  refine (put_any n0 B wd bs (sumL bs) _ l _ (Buf.step hb (al _ _)) hr hB (Nat.le_trans hn (al _ _).size) h1 h4 hl hbl (by omega) hnn).mono ?_
  rintro e w' ⟨h1, h2, h3⟩
  exact ⟨h1, by unfold BufS; rw [sumL_app]; exact h2, (Blw.of_below ((Below.refl _ _).alloc hn _) (Nat.le_of_lt hB)).trans h3⟩
/-- The bytes of a frame. -/
def encA (a b c d : Int) : List Int := encs 4 [a, b, c, d]
def encB (a b c d : Int) (n : Nat) : List Int := encA a b c d ++ encs 1 [(n : Int)]
def encC (a b c d : Int) (l : List Int) : List Int := encB a b c d l.length ++ encs 4 (l.map (· + 1000000000))
def encD (a b c d : Int) (l : List Int) (t : Int) : List Int := encC a b c d l ++ encs 4 [t]
def encF (a b c d : Int) (l : List Int) (t : Int) : List Int := encD a b c d l t ++ encs 2 [sumL (encD a b c d l t) % 65521]
theorem encA_len (a b c d : Int) : (encA a b c d).length = 16 := by unfold encA; rw [encs_len]; rfl
theorem encB_len (a b c d : Int) (n : Nat) : (encB a b c d n).length = 17 := by unfold encB; rw [List.length_append, encA_len, encs_len]; rfl
theorem encC_len (a b c d : Int) (l : List Int) : (encC a b c d l).length = 17 + 4 * l.length := by unfold encC; rw [List.length_append, encB_len, encs_len, List.length_map]
theorem encD_len (a b c d : Int) (l : List Int) (t : Int) : (encD a b c d l t).length = 21 + 4 * l.length := by unfold encD; rw [List.length_append, encC_len, encs_len]; simp; omega
theorem encF_len (a b c d : Int) (l : List Int) (t : Int) : (encF a b c d l t).length = 23 + 4 * l.length := by unfold encF; rw [List.length_append, encD_len, encs_len]; simp; omega
theorem encA_by (a b c d : Int) : IsBy (encA a b c d) := encs_by _ _
theorem encB_by (a b c d : Int) (n : Nat) : IsBy (encB a b c d n) := (encA_by a b c d).app (encs_by _ _)
theorem encC_by (a b c d : Int) (l : List Int) : IsBy (encC a b c d l) := (encB_by a b c d l.length).app (encs_by _ _)
theorem encD_by (a b c d : Int) (l : List Int) (t : Int) : IsBy (encD a b c d l t) := (encC_by a b c d l).app (encs_by _ _)
theorem encF_by (a b c d : Int) (l : List Int) (t : Int) : IsBy (encF a b c d l t) := (encD_by a b c d l t).app (encs_by _ _)
theorem any_no {l : List Int} (h : l.any bdB = false) {k : Nat} (hk : k < l.length) : -1000000000 ≤ l.getD k 0 ∧ l.getD k 0 ≤ 1000000000 := by
  rw [List.any_eq_false] at h
  have h2 := h (l.getD k 0) (List.mem_of_getElem? (getD_of hk))
  unfold bdB at h2
  simp only [Bool.or_eq_true, decide_eq_true_iff, not_or] at h2
  omega
theorem va_parts {a b c d t : Int} {l : List Int} (h : vaB a b c d l t = true) : (0 ≤ a ∧ a ≤ 1000000) ∧ (0 ≤ b ∧ b ≤ 1000000) ∧ (0 ≤ c ∧ c ≤ 1000000) ∧ (0 ≤ d ∧ d ≤ 1000000) ∧ l.any bdB = false ∧ l.length ≤ 32 ∧ 0 ≤ t ∧ t ≤ 2147483646 := by
  unfold vaB tgB at h
  simp only [Bool.and_eq_true, decide_eq_true_iff, Bool.not_eq_true'] at h
  obtain ⟨⟨h1, h2, h3, h4⟩, h5, h6, h7, h8⟩ := h
  exact ⟨fd_no h1, fd_no h2, fd_no h3, fd_no h4, h5, h6, h7, h8⟩
end Go.Proofs.Ytebeaekiaikgmaa
