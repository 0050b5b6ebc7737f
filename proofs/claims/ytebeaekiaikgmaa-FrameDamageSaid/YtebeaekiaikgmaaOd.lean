/- One byte put otherwise: the sum of the bytes finds it. -/
import Derived.Test.YtebeaekiaikgmaaLm
namespace Go.Proofs.Ytebeaekiaikgmaa
open Go.RowKit

theorem fold_add (l : List Int) : ∀ s : Int, l.foldl (· + ·) s = s + sumL l := by
  unfold sumL
  induction l with
  | nil => intro s; simp
  | cons x l ih => intro s; rw [List.foldl_cons, List.foldl_cons, ih, ih (0 + x)]; omega
theorem sumC (x : Int) (l : List Int) : sumL (x :: l) = x + sumL l := by
  show (x :: l).foldl (· + ·) 0 = _
  rw [List.foldl_cons, fold_add]; omega
theorem sum_put (v : Int) : ∀ (l : List Int) (k : Nat), k < l.length → sumL (l.set k v) = sumL l + v - l.getD k 0
  | [], k, h => by simp at h
  | x :: l, 0, _ => by rw [List.set_cons_zero, sumC, sumC]; simp; omega
  | x :: l, k + 1, h => by
    rw [List.set_cons_succ, sumC, sumC, sum_put v l k (by simp at h; omega)]
    simp; omega
theorem enc2_inj {x y : Int} (hx : 0 ≤ x ∧ x < 65521) (hy : 0 ≤ y ∧ y < 65521) (h : encN 2 x = encN 2 y) : x = y := by
  have h0 : byt x 1 = byt y 1 := by have := congrArg (fun l => l.getD 0 0) h; exact this
  have h1 : byt x 0 = byt y 0 := by have := congrArg (fun l => l.getD 1 0) h; exact this
  unfold byt at h0 h1
  rw [show (2 : Int) ^ (8 * 1) = 256 by decide] at h0
  rw [show (2 : Int) ^ (8 * 0) = 1 by decide] at h1
  omega
/-- The last two bytes are the sum of the others. -/
def chk (L : List Int) : Prop := L.drop (L.length - 2) = encN 2 (sumL (L.take (L.length - 2)) % 65521)
theorem chk_enc (a b c d : Int) (l : List Int) (t : Int) : chk (encF a b c d l t) := by
  unfold chk
  have hl : (encF a b c d l t).length - 2 = (encD a b c d l t).length := by rw [encF_len, encD_len]; omega
  rw [hl]
  unfold encF
  rw [List.drop_left, List.take_left, encs_cons, encs_nil, List.append_nil]
theorem chk_put {L : List Int} {k : Nat} {v : Int} (h : chk L) (h' : chk (L.set k v)) (hk : k < L.length) (hb : ∀ x ∈ L, 0 ≤ x ∧ x ≤ 255) (hv : 0 ≤ v ∧ v ≤ 255) : v = L.getD k 0 := by
  unfold chk at h h'
  rw [List.length_set] at h'
  have hx := hb _ (List.mem_of_getElem? (getD_of hk))
  by_cases hm : k < L.length - 2
  · rw [List.drop_set_of_lt hm, h, List.take_set, sum_put _ _ _ (by rw [List.length_take]; omega)] at h'
    have e : (L.take (L.length - 2)).getD k 0 = L.getD k 0 := by rw [List.getD_eq_getElem?_getD, List.getD_eq_getElem?_getD, List.getElem?_take_of_lt hm]
    rw [e] at h'
    have := enc2_inj (by omega) (by omega) h'
    omega
  · rw [List.take_set_of_le (by omega), ← h] at h'
    have e : L.set k v = L := by
      rw [← List.take_append_drop (L.length - 2) (L.set k v), List.take_set_of_le (by omega), h', List.take_append_drop]
    have e2 := congrArg (fun l => l.getD k 0) e
    simp [hk] at e2
    simp [hk]
    exact e2
/-- What is decoded are a frame's bytes. -/
theorem dec_is {L : List Int} {n : Nat} (h : decE L n = L) (hL : L ≠ []) : ∃ a b c d l t, vaB a b c d l t = true ∧ L = encF a b c d l t := by
  unfold decE encO at h
  split at h
  · rename_i hv
    exact ⟨_, _, _, _, _, _, hv, h.symm⟩
  · exact absurd h.symm hL
theorem dec_len {L : List Int} {n : Nat} (h : decE L n = L) (hL : L ≠ []) : (L.length : Int) = 23 + 4 * L.getD 16 0 := by
  obtain ⟨a, b, c, d, l, t, hv, e⟩ := dec_is h hL
  obtain ⟨h0, h1, -⟩ := dec_enc hv
  rw [e, h0, h1]
  omega
theorem no_put {a b c d : Int} {l : List Int} {t : Int} {k : Nat} {v : Int} (hk : k < (encF a b c d l t).length) (hv : 0 ≤ v ∧ v ≤ 255) (hne : v ≠ (encF a b c d l t).getD k 0) (n : Nat) : decE ((encF a b c d l t).set k v) n ≠ (encF a b c d l t).set k v := by
  intro h
  have hL : (encF a b c d l t).set k v ≠ [] := by
    intro e
    have := congrArg List.length e
    rw [List.length_set] at this
    have h0 : ([] : List Int).length = 0 := rfl
    omega
  obtain ⟨a', b', c', d', l', t', -, e⟩ := dec_is h hL
  have hc := chk_enc a' b' c' d' l' t'
  rw [← e] at hc
  exact hne (chk_put (chk_enc a b c d l t) hc hk (fun x hx => encF_by a b c d l t x hx) hv)
theorem no_cut {a b c d : Int} {l : List Int} {t : Int} {k : Nat} (hva : vaB a b c d l t = true) (hk : k < (encF a b c d l t).length) (hk0 : 23 ≤ k) (n : Nat) : decE ((encF a b c d l t).take k) n ≠ (encF a b c d l t).take k := by
  intro h
  obtain ⟨h0, h1, -⟩ := dec_enc hva
  have hlen : ((encF a b c d l t).take k).length = k := by rw [List.length_take]; omega
  have := dec_len h (by intro e; rw [e] at hlen; simp at hlen; omega)
  rw [hlen, List.getD_eq_getElem?_getD, List.getElem?_take_of_lt (by omega), ← List.getD_eq_getElem?_getD, h0] at this
  omega
theorem no_more {a b c d : Int} {l : List Int} {t : Int} {more : List Int} (hva : vaB a b c d l t = true) (hm : more ≠ []) (n : Nat) : decE (encF a b c d l t ++ more) n ≠ encF a b c d l t ++ more := by
  intro h
  obtain ⟨h0, h1, -⟩ := dec_enc hva
  have hp := List.length_pos_iff.2 hm
  have := dec_len h (by simp [hm])
  rw [List.length_append, List.getD_eq_getElem?_getD, List.getElem?_append_left (by omega), ← List.getD_eq_getElem?_getD, h0] at this
  omega
/-- Bytes that are no frame's. -/
theorem decode_no (v : Value) (l : List Int) (w : World) (h : BysAt w v l) (hb : IsBy l) (h9 : l.length ≤ 2000) (hn : ∀ n, 23 ≤ l.length → decE l n ≠ l) : Calls Try.prog 13 #[v] w (DcP w 0 0 0 0 [] 0 24) := by
  cases hx : badL l
  · have h23 : 23 ≤ l.length := by
      unfold badL at hx
      simp at hx
      omega
    obtain ⟨n, -, -, h3⟩ := decode_good v l w h hb h9 hx
    refine h3.mono fun e w' hq => ?_
    unfold DcQ at hq
    rw [if_neg (hn n h23)] at hq
    exact hq
  · exact decode_bad v l w h hb h9 hx
end Go.Proofs.Ytebeaekiaikgmaa
