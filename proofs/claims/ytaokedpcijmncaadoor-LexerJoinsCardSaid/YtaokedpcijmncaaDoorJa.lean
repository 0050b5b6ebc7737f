/- Two texts with a line feed between them. -/
import Derived.Test.YtaokedpcijmncaaDoorT
namespace Go.Proofs.YtaokedpcijmncaaDoor
open Go.RowKit Go.Maps

/-- A line feed ends a comment. -/
theorem lexL_nl (b : Bool) (p : Nat) (l : List UInt8) : lexL b p (10 :: l) = lexL false (p + 1) l := by
  cases b
  · exact lexL_space p 10 l (by decide)
  · have h10 : ((10 : UInt8) != 10) = false := rfl
    have hg : gapF true (10 :: l) = gapF false l + 1 := by rw [gapF, h10]
    by_cases hl : gapF false l < l.length
    · have e1 : p + gapF true (10 :: l) = p + 1 + gapF false l := by omega
      have e2 : (10 :: l).drop (gapF true (10 :: l)) = l.drop (gapF false l) := by rw [hg]; rfl
      by_cases he : (mkI (p + 1 + gapF false l) (l.drop (gapF false l))).err = 0
      · rw [lexL_go false (p + 1) l hl he, lexL_go true p (10 :: l) (by rw [hg]; simpa using hl) (by rw [e1, e2]; exact he), e1, e2]
      · rw [lexL_bad false (p + 1) l hl he, lexL_bad true p (10 :: l) (by rw [hg]; simpa using hl) (by rw [e1, e2]; exact he), e1, e2]
    · rw [lexL_end false (p + 1) l hl, lexL_end]
      rw [hg]; simpa using hl
/-- The joined text. -/
def joinT (a b : ByteArray) : ByteArray := a ++ ⟨#[10]⟩ ++ b
theorem joinT_list (a b : ByteArray) : (joinT a b).data.toList = a.data.toList ++ 10 :: b.data.toList := by simp [joinT, ByteArray.data_append]
theorem joinT_ok (a b : ByteArray) (ha : ∀ x ∈ its a (gap a 0), x.err = 0) : its (joinT a b) (gap (joinT a b) 0) = its a (gap a 0) ++ (its b (gap b 0)).map (shift (a.size + 1)) := by
  rw [its_list] at ha
  obtain ⟨h1, _⟩ := lex_app _ false 0 a.data.toList (10 :: b.data.toList) (Nat.le_refl _) (.inr (.inl (by show kb 10 = 16; decide)))
  obtain ⟨c, hc⟩ := h1 ha
  rw [its_list, joinT_list, hc, its_list, its_list, lexL_nl]
  have h0 : a.data.toList.length = a.size := rfl
  rw [h0, show 0 + a.size + 1 = 0 + (a.size + 1) by omega, lexL_shift]
theorem joinT_bad (a b : ByteArray) (ha : ∃ x ∈ its a (gap a 0), x.err ≠ 0) : its (joinT a b) (gap (joinT a b) 0) = its a (gap a 0) := by
  rw [its_list] at ha
  obtain ⟨_, h2⟩ := lex_app _ false 0 a.data.toList (10 :: b.data.toList) (Nat.le_refl _) (.inr (.inl (by show kb 10 = 16; decide)))
  rw [its_list, joinT_list, h2 ha, its_list]
theorem joinT_size (a b : ByteArray) : (joinT a b).size = a.size + 1 + b.size := by
  simp only [joinT, ByteArray.size_append]
  have : (⟨#[10]⟩ : ByteArray).size = 1 := rfl
  omega
theorem cut_has (s : ByteArray) (hs : s.size ≤ 6000) (er off : Int) (h : cut 0 (its s (gap s 0)) = some (er, off)) : ∃ x ∈ its s (gap s 0), x.err ≠ 0 := by
  have hlen := items_len s s.size (gap s 0) (by omega)
  apply Classical.byContradiction; intro hn
  have := cut_none 0 (its s (gap s 0)) (fun x hx => Classical.byContradiction fun h => hn ⟨x, hx, h⟩) (by omega)
  rw [this] at h; cases h
/-- Where one of both has an error, the joined text has one. -/
theorem joinT_err (a b : ByteArray) (ha : a.size ≤ 2000) (hb : b.size ≤ 2000) (h : cut 0 (its a (gap a 0)) ≠ none ∨ cut 0 (its b (gap b 0)) ≠ none) : ∃ er off, cut 0 (its (joinT a b) (gap (joinT a b) 0)) = some (er, off) ∧ er ≠ 0 := by
  cases hz : cut 0 (its (joinT a b) (gap (joinT a b) 0)) with
  | some x => exact ⟨x.1, x.2, rfl, cut_ne 0 _ x.1 x.2 hz⟩
  | none =>
    exfalso
    have hall := cut_all 0 _ hz
    by_cases hbad : ∃ x ∈ its a (gap a 0), x.err ≠ 0
    · rw [joinT_bad a b hbad] at hall
      obtain ⟨x, hx, hxe⟩ := hbad
      exact hxe (hall x hx)
    · have hok : ∀ x ∈ its a (gap a 0), x.err = 0 := fun x hx => Classical.byContradiction fun hn => hbad ⟨x, hx, hn⟩
      rw [joinT_ok a b hok] at hall
      rcases h with h | h
      · cases hc : cut 0 (its a (gap a 0)) with
        | none => exact h hc
        | some y => exact hbad (cut_has a (by omega) y.1 y.2 hc)
      · cases hc : cut 0 (its b (gap b 0)) with
        | none => exact h hc
        | some y =>
          obtain ⟨x, hx, hxe⟩ := cut_has b (by omega) y.1 y.2 hc
          exact hxe (hall (shift (a.size + 1) x) (List.mem_append_right _ (List.mem_map_of_mem hx)))
theorem joinT_none (a b : ByteArray) (ha : a.size ≤ 2000) (hb : b.size ≤ 2000) (h1 : cut 0 (its a (gap a 0)) = none) (h2 : cut 0 (its b (gap b 0)) = none) : cut 0 (its a (gap a 0) ++ (its b (gap b 0)).map (shift (a.size + 1))) = none := by
  have l1 := items_len a a.size (gap a 0) (by omega)
  have l2 := items_len b b.size (gap b 0) (by omega)
  refine cut_none 0 _ (fun x hx => ?_) (by simp; omega)
  rcases List.mem_append.1 hx with h | h
  · exact cut_all 0 _ h1 x h
  · obtain ⟨y, hy, rfl⟩ := List.mem_map.1 h
    exact cut_all 0 _ h2 y hy
end Go.Proofs.YtaokedpcijmncaaDoor
