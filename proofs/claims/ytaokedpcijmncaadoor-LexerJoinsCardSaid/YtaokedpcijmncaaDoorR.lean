/- The items of a list of bytes; what stands before and behind it. -/
import Derived.Test.YtaokedpcijmncaaDoorQ
import Derived.Test.YtaokedpcijmncaaDoorP
namespace Go.Proofs.YtaokedpcijmncaaDoor
open Go.RowKit Go.Maps

/-- The items of a list of bytes at an offset, within a comment or not. -/
def lexN : Nat → Bool → Nat → List UInt8 → List Item
  | 0, _, _, _ => []
  | f + 1, b, p, l =>
    if gapF b l < l.length then
      (if (mkI (p + gapF b l) (l.drop (gapF b l))).err = 0 then
        mkI (p + gapF b l) (l.drop (gapF b l)) :: lexN f false (p + gapF b l + (mkI (p + gapF b l) (l.drop (gapF b l))).t.size) ((l.drop (gapF b l)).drop (mkI (p + gapF b l) (l.drop (gapF b l))).t.size)
      else [mkI (p + gapF b l) (l.drop (gapF b l))])
    else []
def lexL (b : Bool) (p : Nat) (l : List UInt8) : List Item := lexN (l.length + 1) b p l
/-- A token of a list is not empty, and lies within it. -/
theorem mkI_len (p : Nat) (l : List UInt8) (h : (mkI p l).err = 0) : l ≠ [] ∧ 1 ≤ (mkI p l).t.size ∧ (mkI p l).t.size ≤ l.length := by
  have hne : l ≠ [] := by intro e; subst e; revert h; show ¬ (3 : Int) = 0; decide
  have hl : 1 ≤ l.length := by cases l with | nil => exact absurd rfl hne | cons c l => simp
  have hlen : ∀ n, n ≤ l.length → (txt (l.take n)).size = n := fun n hn => by rw [txt_size, List.length_take]; omega
  refine ⟨hne, ?_⟩
  unfold mkI at h ⊢
  split at h
  · rename_i hk1
    rw [if_pos hk1]
    split at h
    · cases h
    · rename_i hc
      rw [if_neg hc]
      show 1 ≤ (txt _).size ∧ (txt _).size ≤ _
      rw [hlen _ (run_le 7 l)]
      refine ⟨?_, run_le 7 l⟩
      cases l with
      | nil => exact absurd rfl hne
      | cons c l => unfold run; rw [if_pos (by rw [show kb c = 1 from hk1]; decide)]; omega
  · rename_i hk1
    rw [if_neg hk1]
    split at h
    · rename_i hk2
      rw [if_pos hk2]
      split at h
      · cases h
      · rename_i hc
        rw [if_neg hc]
        show 1 ≤ (txt _).size ∧ (txt _).size ≤ _
        rw [hlen _ (numE_le l)]
        exact ⟨Nat.le_trans (run_pos hk2) (numE_ge l), numE_le l⟩
    · rename_i hk2
      rw [if_neg hk2]
      split at h
      · rename_i hk8
        rw [if_pos hk8]
        show 1 ≤ (txt _).size ∧ (txt _).size ≤ _
        have h2 : (if twoL l then 2 else 1) ≤ l.length := by
          split
          · rename_i hx
            match l, hx with
            | c :: d :: w, _ => simp
          · exact hl
        rw [hlen _ h2]
        refine ⟨by split <;> omega, h2⟩
      · cases h
theorem lexN_fuel (n m : Nat) (b : Bool) (p : Nat) (l : List UInt8) (hn : l.length < n) (hm : l.length < m) : lexN n b p l = lexN m b p l := by
  induction n generalizing m b p l with
  | zero => omega
  | succ n ih =>
    cases m with
    | zero => omega
    | succ m =>
      rw [lexN, lexN]
      by_cases hg : gapF b l < l.length
      · rw [if_pos hg, if_pos hg]
        by_cases he : (mkI (p + gapF b l) (l.drop (gapF b l))).err = 0
        · have h1 := mkI_len _ _ he
          rw [if_pos he, if_pos he]
          congr 1
          have h2 := h1.2.2
          simp only [List.length_drop] at h2
          apply ih <;> (simp only [List.length_drop]; omega)
        · rw [if_neg he, if_neg he]
      · rw [if_neg hg, if_neg hg]
theorem lexL_end (b : Bool) (p : Nat) (l : List UInt8) (h : ¬ gapF b l < l.length) : lexL b p l = [] := by
  unfold lexL; rw [lexN, if_neg h]
theorem lexL_bad (b : Bool) (p : Nat) (l : List UInt8) (h : gapF b l < l.length) (he : (mkI (p + gapF b l) (l.drop (gapF b l))).err ≠ 0) : lexL b p l = [mkI (p + gapF b l) (l.drop (gapF b l))] := by
  unfold lexL; rw [lexN, if_pos h, if_neg he]
theorem lexL_go (b : Bool) (p : Nat) (l : List UInt8) (h : gapF b l < l.length) (he : (mkI (p + gapF b l) (l.drop (gapF b l))).err = 0) :
    lexL b p l = mkI (p + gapF b l) (l.drop (gapF b l)) :: lexL false (p + gapF b l + (mkI (p + gapF b l) (l.drop (gapF b l))).t.size) ((l.drop (gapF b l)).drop (mkI (p + gapF b l) (l.drop (gapF b l))).t.size) := by
  have h1 := mkI_len _ _ he
  have h2 := h1.2.2
  simp only [List.length_drop] at h2
  unfold lexL
  rw [lexN, if_pos h, if_pos he]
  congr 1
  apply lexN_fuel <;> (simp only [List.length_drop]; omega)

theorem its_sfx (s : ByteArray) (i : Nat) (hi : i ≤ s.size) : its s (gap s i) = lexL false i (sfx s i) := by
  induction hn : s.size - i using Nat.strongRecOn generalizing i with
  | _ n ih =>
    have hg := gap_sfx s i hi
    have hle := gap_le s i hi
    have hlen := sfx_len s i
    have hd : (sfx s i).drop (gapF false (sfx s i)) = sfx s (gap s i) := by rw [sfx_drop, ← hg]
    by_cases hp : gap s i < s.size
    · have hgl : gapF false (sfx s i) < (sfx s i).length := by omega
      have hm : mkI (i + gapF false (sfx s i)) ((sfx s i).drop (gapF false (sfx s i))) = item s (gap s i) := by rw [hd, ← hg, item_sfx]
      by_cases he : (item s (gap s i)).err = 0
      · have h1 := item_len s _ hp he
        have h2 := gap_ge s i
        rw [its_go s _ hp he, lexL_go false i _ hgl (by rw [hm]; exact he), hm, hd, sfx_drop, ← hg]
        congr 1
        exact ih (s.size - (gap s i + (item s (gap s i)).t.size)) (by omega) _ h1.2 rfl
      · rw [its_stop s _ hp he, lexL_bad false i _ hgl (by rw [hm]; exact he), hm]
    · rw [its_end s _ hp, lexL_end]
      omega

/-- An item at another offset. -/
def shift (a : Nat) (x : Item) : Item := { x with at_ := x.at_ + a }
theorem mkI_shift (p a : Nat) (l : List UInt8) : mkI (p + a) l = shift a (mkI p l) := by
  unfold mkI shift
  split
  · split <;> simp
  · split
    · split <;> simp
    · split <;> simp
theorem lexN_shift (f : Nat) (b : Bool) (p a : Nat) (l : List UInt8) : lexN f b (p + a) l = (lexN f b p l).map (shift a) := by
  induction f generalizing b p l with
  | zero => rfl
  | succ f ih =>
    have h1 : p + a + gapF b l = p + gapF b l + a := by omega
    rw [lexN, lexN, h1, mkI_shift]
    have h2 : (shift a (mkI (p + gapF b l) (l.drop (gapF b l)))).err = (mkI (p + gapF b l) (l.drop (gapF b l))).err := rfl
    have h3 : (shift a (mkI (p + gapF b l) (l.drop (gapF b l)))).t = (mkI (p + gapF b l) (l.drop (gapF b l))).t := rfl
    rw [h2, h3]
    split
    · split
      · rw [List.map_cons, ← ih]
        congr 2
        omega
      · rfl
    · rfl
theorem lexL_shift (b : Bool) (p a : Nat) (l : List UInt8) : lexL b (p + a) l = (lexL b p l).map (shift a) := lexN_shift _ b p a l
theorem cut_shift (n a : Nat) (l : List Item) : cut n (l.map (shift a)) = (cut n l).map (fun x : Int × Int => (x.1, x.2 + (a : Int))) := by
  induction l generalizing n with
  | nil => rfl
  | cons x l ih =>
    have h1 : errOf n (shift a x) = errOf n x := rfl
    rw [List.map_cons, cut, cut, h1]
    split
    · exact ih (n + 1)
    · rfl
/-- A space before. -/
theorem lexL_space (p : Nat) (c : UInt8) (l : List UInt8) (h : kb c = 16) : lexL false p (c :: l) = lexL false (p + 1) l := by
  have hg : gapF false (c :: l) = gapF false l + 1 := by rw [gapF, if_pos h]
  by_cases hl : gapF false l < l.length
  · have e1 : p + gapF false (c :: l) = p + 1 + gapF false l := by omega
    have e2 : (c :: l).drop (gapF false (c :: l)) = l.drop (gapF false l) := by rw [hg]; rfl
    by_cases he : (mkI (p + 1 + gapF false l) (l.drop (gapF false l))).err = 0
    · rw [lexL_go false (p + 1) l hl he, lexL_go false p (c :: l) (by rw [hg]; simpa using hl) (by rw [e1, e2]; exact he), e1, e2]
    · rw [lexL_bad false (p + 1) l hl he, lexL_bad false p (c :: l) (by rw [hg]; simpa using hl) (by rw [e1, e2]; exact he), e1, e2]
  · rw [lexL_end false (p + 1) l hl, lexL_end]
    rw [hg]; simpa using hl

/-- Whether a comment is open behind a list that is all gaps. -/
def openC : Bool → List UInt8 → Bool
  | b, [] => b
  | false, c :: l => if kb c = 32 then openC true l else openC false l
  | true, c :: l => openC (c != 10) l
theorem gapF_app (b : Bool) (u r : List UInt8) : gapF b (u ++ r) = if gapF b u < u.length then gapF b u else u.length + gapF (openC b u) r := by
  induction u generalizing b with
  | nil => cases b <;> simp [gapF, openC]
  | cons c u ih =>
    cases b
    · rw [List.cons_append, gapF, gapF]
      by_cases h1 : kb c = 16
      · have ho : openC false (c :: u) = openC false u := by rw [openC, if_neg (by rw [h1]; decide)]
        rw [if_pos h1, if_pos h1, ho, ih false]
        simp only [List.length_cons]
        split
        · rw [if_pos (by omega)]
        · rw [if_neg (by omega)]; omega
      · rw [if_neg h1, if_neg h1]
        by_cases h2 : kb c = 32
        · have ho : openC false (c :: u) = openC true u := by rw [openC, if_pos h2]
          rw [if_pos h2, if_pos h2, ho, ih true]
          simp only [List.length_cons]
          split
          · rw [if_pos (by omega)]
          · rw [if_neg (by omega)]; omega
        · rw [if_neg h2, if_neg h2, if_pos (by simp)]
    · rw [List.cons_append, gapF, gapF, openC, ih]
      simp only [List.length_cons]
      split
      · rw [if_pos (by omega)]
      · rw [if_neg (by omega)]; omega
end Go.Proofs.YtaokedpcijmncaaDoor
