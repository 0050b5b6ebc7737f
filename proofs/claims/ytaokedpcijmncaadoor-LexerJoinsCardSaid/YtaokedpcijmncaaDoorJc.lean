/- The other ways of 'LexerJoins'. -/
import Derived.Test.YtaokedpcijmncaaDoorJb
namespace Go.Proofs.YtaokedpcijmncaaDoor
open Go.RowKit Go.Maps

theorem lex_some (s : ByteArray) (w : World) (hs : s.size ≤ 20000) (hT : Tab w) :
    Calls Tryd.prog 10 #[.string s] w fun e w' => ∃ (v : Value) (er off : Int), e = .returned (.tuple #[v, .int .i64 er, .int .i64 off]) ∧ Below w.heap.size w w' := by
  refine (lex_any s w hs hT).mono fun e w' h => ?_
  obtain ⟨⟨_, v, he, _⟩ | ⟨er, off, _, he⟩, hB⟩ := h
  · exact ⟨v, 0, -1, he, hB⟩
  · exact ⟨_, er, off, he, hB⟩
set_option maxRecDepth 100000 in
set_option maxHeartbeats 1600000 in
theorem joins_bad1 (a b : ByteArray) (w : World) (ha : a.size ≤ 2000) (hb : b.size ≤ 2000) (hT : Tab w) (er off : Int) (hca : cut 0 (its a (gap a 0)) = some (er, off)) :
    Calls Tryd.prog 5 #[.string a, .string b] w fun e w' => e = .returned (.bool true) ∧ Below w.heap.size w w' := by
  have hp := hT.pos
  obtain ⟨er3, off3, hz3, hne3⟩ := joinT_err a b ha hb (.inl (by rw [hca]; simp))
  have hne : (er != 0) = true := by simpa using cut_ne 0 _ er off hca
  have hne2 : (er3 != 0) = true := by simpa using hne3
  have HSZ := Lib.hid (joinT_size a b)
  have HCA := Lib.hid hca
  have HZ := Lib.hid hz3
  have hz : (⟨#[10]⟩ : ByteArray).size = 1 := rfl
  clear hca hz3 hne3
  go_enter Tryd.func5, Tryd.ntmps5
  go_wp2_with fail
  refine (head_any w hT).mono ?_
  rintro e w1 ⟨rfl, b1⟩
  have hT1 := hT.below b1 hp
  go_wp2_with fail
  refine (lex_err a w1 (by omega) hT1 er off HCA.out).mono ?_
  rintro e w2 ⟨rfl, b2⟩
  have hT2 := hT1.below b2 hT1.pos
  go_wp2_with fail
  refine (lex_some b w2 (by omega) hT2).mono ?_
  rintro e w3 ⟨v3, er2, off2, rfl, b3⟩
  have hT3 := hT2.below b3 hT2.pos
  go_wp2_with fail
  refine (lex_err (joinT a b) w3 (by rw [HSZ.out]; omega) hT3 er3 off3 HZ.out).mono ?_
  rintro e w4 ⟨rfl, b4⟩
  have HB := Lib.hid (((b1.trans (b2.mono b1.size)).trans (b3.mono (Nat.le_trans b1.size b2.size))).trans (b4.mono (Nat.le_trans (Nat.le_trans b1.size b2.size) b3.size)))
  clear b1 b2 b3 b4 hT hT1 hT2 hT3
  go_wp2_with fail
  go_ret
  exact ⟨rfl, HB.out⟩
set_option maxRecDepth 100000 in
set_option maxHeartbeats 1600000 in
theorem joins_bad2 (a b : ByteArray) (w : World) (ha : a.size ≤ 2000) (hb : b.size ≤ 2000) (hT : Tab w) (er off : Int) (hca : cut 0 (its a (gap a 0)) = none) (hcb : cut 0 (its b (gap b 0)) = some (er, off)) :
    Calls Tryd.prog 5 #[.string a, .string b] w fun e w' => e = .returned (.bool true) ∧ Below w.heap.size w w' := by
  have hp := hT.pos
  obtain ⟨er3, off3, hz3, hne3⟩ := joinT_err a b ha hb (.inr (by rw [hcb]; simp))
  have hne : (er != 0) = true := by simpa using cut_ne 0 _ er off hcb
  have hne2 : (er3 != 0) = true := by simpa using hne3
  have HSZ := Lib.hid (joinT_size a b)
  have HCA := Lib.hid hca
  have HCB := Lib.hid hcb
  have HZ := Lib.hid hz3
  have hz : (⟨#[10]⟩ : ByteArray).size = 1 := rfl
  clear hca hcb hz3 hne3
  go_enter Tryd.func5, Tryd.ntmps5
  go_wp2_with fail
  refine (head_any w hT).mono ?_
  rintro e w1 ⟨rfl, b1⟩
  have hT1 := hT.below b1 hp
  go_wp2_with fail
  refine (lex_ok a w1 (by omega) hT1 _ rfl HCA.out).mono ?_
  rintro e w2 ⟨v2, rfl, _, b2⟩
  have hT2 := hT1.below b2 hT1.pos
  go_wp2_with fail
  refine (lex_err b w2 (by omega) hT2 er off HCB.out).mono ?_
  rintro e w3 ⟨rfl, b3⟩
  have hT3 := hT2.below b3 hT2.pos
  go_wp2_with fail
  refine (lex_err (joinT a b) w3 (by rw [HSZ.out]; omega) hT3 er3 off3 HZ.out).mono ?_
  rintro e w4 ⟨rfl, b4⟩
  have HB := Lib.hid (((b1.trans (b2.mono b1.size)).trans (b3.mono (Nat.le_trans b1.size b2.size))).trans (b4.mono (Nat.le_trans (Nat.le_trans b1.size b2.size) b3.size)))
  clear b1 b2 b3 b4 hT hT1 hT2 hT3
  go_wp2_with fail
  go_ret
  exact ⟨rfl, HB.out⟩
set_option maxRecDepth 100000 in
set_option maxHeartbeats 1600000 in
theorem joins_long (s c : ByteArray) (w : World) (h : ¬ (s.size ≤ 2000 ∧ c.size ≤ 2000)) (_hs : s.size ≤ 2 ^ 63 - 1) (_hc : c.size ≤ 2 ^ 63 - 1) (hT : Tab w) :
    Calls Tryd.prog 5 #[.string s, .string c] w fun e w' => e = .returned (.bool true) ∧ Below w.heap.size w w' := by
  by_cases h1 : s.size ≤ 2000
  · have h2 : ¬ c.size ≤ 2000 := fun h2 => h ⟨h1, h2⟩
    clear h
    go_enter Tryd.func5, Tryd.ntmps5
    go_wp2_with fail
    refine (head_any w hT).mono ?_
    rintro e w1 ⟨rfl, b1⟩
    clear hT
    go_wp2_with fail
    go_ret
    exact ⟨rfl, b1⟩
  · clear h
    go_enter Tryd.func5, Tryd.ntmps5
    go_wp2_with fail
    refine (head_any w hT).mono ?_
    rintro e w1 ⟨rfl, b1⟩
    clear hT
    go_wp2_with fail
    go_ret
    exact ⟨rfl, b1⟩
theorem joins_walk (a b : ByteArray) (w : World) (hm : a.size ≤ maxLen) (hmc : b.size ≤ maxLen) (hT : Tab w) :
    Calls Tryd.prog 5 #[.string a, .string b] w fun e w' => e = .returned (.bool true) ∧ Below w.heap.size w w' := by
  by_cases h : a.size ≤ 2000 ∧ b.size ≤ 2000
  · cases hca : cut 0 (its a (gap a 0)) with
    | some x => exact joins_bad1 a b w h.1 h.2 hT x.1 x.2 hca
    | none =>
      cases hcb : cut 0 (its b (gap b 0)) with
      | some x => exact joins_bad2 a b w h.1 h.2 hT x.1 x.2 hca hcb
      | none => exact joins_ok a b w h.1 h.2 hT hca hcb
  · exact joins_long a b w h hm hmc hT
end Go.Proofs.YtaokedpcijmncaaDoor
