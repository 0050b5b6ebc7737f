/- Frames as bytes: what is decoded from a frame's bytes. -/
import Derived.Test.YtebeaekiaikgmaaLa
namespace Go.Proofs.Ytebeaekiaikgmaa
open Go.RowKit

theorem getD_mid (a : List Int) (x : List Int) (b : List Int) (j : Nat) (hj : j < x.length) : (a ++ (x ++ b)).getD (a.length + j) 0 = x.getD j 0 := by
  rw [List.getD_eq_getElem?_getD, List.getElem?_append_right (by omega), Nat.add_sub_cancel_left, List.getElem?_append_left hj, ← List.getD_eq_getElem?_getD]
theorem num4_at {pre post : List Int} {x : Int} {k : Nat} (hk : k = pre.length) (h0 : 0 ≤ x) (h1 : x < 4294967296) : num4 (pre ++ (encN 4 x ++ post)) k = x := by
  subst hk
  unfold num4
  rw [show pre.length = pre.length + 0 from rfl, getD_mid _ _ _ 0 (by rw [encN_len]; omega), Nat.add_zero, getD_mid _ _ _ 1 (by rw [encN_len]; omega), getD_mid _ _ _ 2 (by rw [encN_len]; omega), getD_mid _ _ _ 3 (by rw [encN_len]; omega)]
  rw [show (encN 4 x).getD 0 0 = byt x 3 from rfl, show (encN 4 x).getD 1 0 = byt x 2 from rfl, show (encN 4 x).getD 2 0 = byt x 1 from rfl, show (encN 4 x).getD 3 0 = byt x 0 from rfl]
  unfold byt
  rw [show (2 : Int) ^ (8 * 3) = 16777216 by decide, show (2 : Int) ^ (8 * 2) = 65536 by decide, show (2 : Int) ^ (8 * 1) = 256 by decide, show (2 : Int) ^ (8 * 0) = 1 by decide]
  omega
theorem encs_cons (wd : Nat) (x : Int) (l : List Int) : encs wd (x :: l) = encN wd x ++ encs wd l := by simp [encs]
theorem encs_app (wd : Nat) (a b : List Int) : encs wd (a ++ b) = encs wd a ++ encs wd b := by simp [encs]
theorem encs_nil (wd : Nat) : encs wd [] = [] := rfl
theorem encF_is (a b c d : Int) (l : List Int) (t : Int) : encF a b c d l t = encN 4 a ++ (encN 4 b ++ (encN 4 c ++ (encN 4 d ++ (encN 1 (l.length : Int) ++ (encs 4 (l.map (· + 1000000000)) ++ (encN 4 t ++ encN 2 (sumL (encD a b c d l t) % 65521))))))) := by
  unfold encF
  generalize sumL (encD a b c d l t) % 65521 = s
  unfold encD encC encB encA
  simp only [encs_cons, encs_nil, List.append_nil, List.append_assoc]
theorem split_at {L : List Int} {i : Nat} (h : i < L.length) : L = L.take i ++ (L.getD i 0 :: L.drop (i + 1)) := by
  rw [show L.getD i 0 = L[i] by simp [h], ← List.drop_eq_getElem_cons h, List.take_append_drop]
theorem bodyL_get {l : List Int} {n i : Nat} (h : i < (bodyL l n).length) : (bodyL l n)[i] = num4 l (17 + 4 * i) - 1000000000 := by simp [bodyL]
theorem dec_enc {a b c d : Int} {l : List Int} {t : Int} (hv : vaB a b c d l t = true) : (encF a b c d l t).getD 16 0 = (l.length : Int) ∧ (encF a b c d l t).length = 23 + 4 * l.length ∧ num4 (encF a b c d l t) 0 = a ∧ num4 (encF a b c d l t) 4 = b ∧ num4 (encF a b c d l t) 8 = c ∧ num4 (encF a b c d l t) 12 = d ∧ bodyL (encF a b c d l t) l.length = l ∧ num4 (encF a b c d l t) (17 + 4 * l.length) = t := by
  obtain ⟨ha, hb, hc, hd, hx, hl, ht⟩ := va_parts hv
  refine ⟨?_, encF_len _ _ _ _ _ _, ?_, ?_, ?_, ?_, ?_, ?_⟩
  · have h := getD_mid (encN 4 a ++ (encN 4 b ++ (encN 4 c ++ encN 4 d))) (encN 1 (l.length : Int)) (encs 4 (l.map (· + 1000000000)) ++ (encN 4 t ++ encN 2 (sumL (encD a b c d l t) % 65521))) 0 (by rw [encN_len]; omega)
    rw [encF_is]
    simp only [List.append_assoc, List.length_append, encN_len, Nat.add_zero] at h
    rw [show 4 + (4 + (4 + 4)) = 16 from rfl] at h
    rw [h, show (encN 1 (l.length : Int)).getD 0 0 = byt l.length 0 from rfl]
    unfold byt
    rw [show (2 : Int) ^ (8 * 0) = 1 by decide]
    omega
  · rw [encF_is]
    exact num4_at (pre := []) rfl ha.1 (by omega)
  · rw [encF_is]
    exact num4_at (pre := encN 4 a) (by rw [encN_len]) hb.1 (by omega)
  · rw [encF_is, ← List.append_assoc]
    exact num4_at (by rw [List.length_append, encN_len, encN_len]) hc.1 (by omega)
  · rw [encF_is, ← List.append_assoc, ← List.append_assoc]
    exact num4_at (by rw [List.length_append, List.length_append, encN_len, encN_len, encN_len]) hd.1 (by omega)
  · apply List.ext_getElem
    · rw [bodyL_len]
    · intro i h1 h2
      have e1 : l.getD i 0 = l[i] := by simp [h2]
      have hb := any_no hx h2
      have hm : (l.map (· + 1000000000)).getD i 0 = l.getD i 0 + 1000000000 := by simp [h2]
      have hs := split_at (L := l.map (· + 1000000000)) (i := i) (by rw [List.length_map]; exact h2)
      rw [hm] at hs
      have hn : num4 (encF a b c d l t) (17 + 4 * i) = l.getD i 0 + 1000000000 := by
        rw [encF_is, hs, encs_app, encs_cons, List.append_assoc (encs 4 _), List.append_assoc (encN 4 (l.getD i 0 + 1000000000))]
        rw [← List.append_assoc, ← List.append_assoc, ← List.append_assoc, ← List.append_assoc, ← List.append_assoc]
        exact num4_at (by simp only [List.length_append, encN_len, encs_len, List.length_take, List.length_map]; omega) (by omega) (by omega)
      rw [bodyL_get, hn, e1]
      omega
  · rw [encF_is, ← List.append_assoc, ← List.append_assoc, ← List.append_assoc, ← List.append_assoc, ← List.append_assoc]
    exact num4_at (by simp only [List.length_append, encN_len, encs_len, List.length_map]) ht.1 (by omega)
theorem dec_self {a b c d : Int} {l : List Int} {t : Int} (hv : vaB a b c d l t = true) : decE (encF a b c d l t) l.length = encF a b c d l t := by
  obtain ⟨-, -, h1, h2, h3, h4, h5, h6⟩ := dec_enc hv
  unfold decE
  rw [h1, h2, h3, h4, h5, h6]
  unfold encO
  rw [if_pos hv]
theorem decode_enc {a b c d : Int} {l : List Int} {t : Int} (hv : vaB a b c d l t = true) (v : Value) (w : World) (h : BysAt w v (encF a b c d l t)) : Calls Try.prog 13 #[v] w (DcP w a b c d l t 0) := by
  obtain ⟨h0, hl, h1, h2, h3, h4, h5, h6⟩ := dec_enc hv
  have h32 := (va_parts hv).2.2.2.2.2.1
  refine (decode_main v _ w h (encF_by _ _ _ _ _ _) (by rw [hl]; omega) l.length h0 hl).mono fun e w' hq => ?_
  unfold DcQ at hq
  rw [if_pos (dec_self hv), h1, h2, h3, h4, h5, h6] at hq
  exact hq
/-- What 'Decode' says of any bytes. -/
theorem decode_two (v : Value) (l : List Int) (w : World) (h : BysAt w v l) (hb : IsBy l) (h9 : l.length ≤ 2000) : (Calls Try.prog 13 #[v] w (DcP w 0 0 0 0 [] 0 24)) ∨ ∃ a b c d l' t, encO a b c d l' t = l ∧ Calls Try.prog 13 #[v] w (DcP w a b c d l' t 0) := by
  cases hx : badL l
  · obtain ⟨n, -, -, h3⟩ := decode_good v l w h hb h9 hx
    by_cases hd : decE l n = l
    · refine .inr ⟨_, _, _, _, _, _, hd, h3.mono fun e w' hq => ?_⟩
      unfold DcQ at hq
      rw [if_pos hd] at hq
      exact hq
    · refine .inl (h3.mono fun e w' hq => ?_)
      unfold DcQ at hq
      rw [if_neg hd] at hq
      exact hq
  · exact .inl (decode_bad v l w h hb h9 hx)
end Go.Proofs.Ytebeaekiaikgmaa
