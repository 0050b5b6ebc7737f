/- The walk of 'LexerAgain'. -/
import Derived.Test.YtaokedpcijmncaaDoorV
namespace Go.Proofs.YtaokedpcijmncaaDoor
open Go.RowKit Go.Maps

set_option maxRecDepth 100000 in
set_option maxHeartbeats 4000000 in
theorem again_ok (s : ByteArray) (w : World) (hs : s.size ≤ 3000) (hT : Tab w) (hcut : cut 0 (its s (gap s 0)) = none) :
    Calls Tryd.prog 4 #[.string s] w fun e w' => e = .returned (.bool true) ∧ Below w.heap.size w w' := by
  have hp := hT.pos
  have h0 : s.data.toList.length = s.size := rfl
  obtain ⟨j1, j2, j3, j4⟩ := join_lex s.data.toList.length false 0 s.data.toList 0 (Nat.le_refl _) (by rw [← its_list]; exact cut_all 0 _ hcut)
  rw [← its_list] at j1 j2 j3 j4
  have HC := Lib.hid hcut
  clear hcut
  generalize hL : its s (gap s 0) = l at *
  have hJ : its (joinS l l.length) (gap (joinS l l.length) 0) = lexL false 0 (joinL l) := by
    rw [its_list]; simp [joinS, txt]
  have hm2 : (lexL false 0 (joinL l)).length ≤ 6000 := by rw [j1.1]; omega
  have HM := Lib.hid (cut_none 0 _ j2 (by omega))
  have HJ := Lib.hid hJ
  have HA := Lib.hid j1
  have HL := Lib.hid hL
  have hjs : (joinS l l.length).size ≤ 6000 := Nat.le_trans (joinS_mono l _) (by omega)
  generalize lexL false 0 (joinL l) = m at *
  clear j1 j2 hJ hL
  go_enter Tryd.func4, Tryd.ntmps4
  go_wp2_with fail
  refine (head_any w hT).mono ?_
  rintro e w1 ⟨rfl, b1⟩
  have hT1 := hT.below b1 hp
  go_wp2_with fail
  refine (lex_ok s w1 (by omega) hT1 _ HL.out HC.out).mono ?_
  rintro e w2 ⟨v2, rfl, t2, b2⟩
  have hT2 := hT1.below b2 hT1.pos
  go_wp2_with fail
  refine (joined12 _ w2 v2 l (by omega) (by omega) t2).mono ?_
  rintro e w3 ⟨rfl, rfl⟩
  go_wp2_with fail
  refine (lex_ok (joinS l l.length) w2 (by omega) hT2 m HJ.out HM.out).mono ?_
  rintro e w4 ⟨v4, rfl, t4, b4⟩
  have T2 := Lib.hid ((t2.below b4 (Nat.le_refl _)).mono b4.size)
  have T4 := Lib.hid t4
  have HB := Lib.hid ((b1.trans (b2.mono b1.size)).trans (b4.mono (Nat.le_trans b1.size b2.size)))
  clear t2 t4 b1 b2 b4 hT hT1 hT2
  go_wp2_with (go_at_call 13; go_must (refine (alike_true _ _ _ _ _ l m (by omega) HA.out.1 HA.out.2 T2.out T4.out).mono ?_); rintro e w' ⟨rfl, n, rfl⟩)
  go_ret
  exact ⟨rfl, HB.out.trans (below_drewN' _ _ n)⟩
set_option maxRecDepth 100000 in
set_option maxHeartbeats 4000000 in
theorem again_err (s : ByteArray) (w : World) (hs : s.size ≤ 3000) (hT : Tab w) (er off : Int) (hcut : cut 0 (its s (gap s 0)) = some (er, off)) :
    Calls Tryd.prog 4 #[.string s] w fun e w' => e = .returned (.bool true) ∧ Below w.heap.size w w' := by
  have hp := hT.pos
  have hne : (er != 0) = true := by simpa using cut_ne 0 _ er off hcut
  go_enter Tryd.func4, Tryd.ntmps4
  go_wp2_with fail
  refine (head_any w hT).mono ?_
  rintro e w1 ⟨rfl, b1⟩
  go_wp2_with fail
  refine (lex_err s w1 (by omega) (hT.below b1 hp) er off hcut).mono ?_
  rintro e w2 ⟨rfl, b2⟩
  have HB := Lib.hid (b1.trans (b2.mono b1.size))
  clear b1 b2 hT hcut
  go_wp2_with fail
  go_ret
  exact ⟨rfl, HB.out⟩
set_option maxRecDepth 100000 in
set_option maxHeartbeats 4000000 in
theorem again_long (s : ByteArray) (w : World) (hs : ¬ s.size ≤ 3000) (_hm : s.size ≤ 2 ^ 63 - 1) (hT : Tab w) :
    Calls Tryd.prog 4 #[.string s] w fun e w' => e = .returned (.bool true) ∧ Below w.heap.size w w' := by
  go_enter Tryd.func4, Tryd.ntmps4
  go_wp2_with fail
  refine (head_any w hT).mono ?_
  rintro e w1 ⟨rfl, b1⟩
  clear hT
  go_wp2_with fail
  go_ret
  exact ⟨rfl, b1⟩
theorem again_walk (s : ByteArray) (w : World) (hm : s.size ≤ maxLen) (hT : Tab w) :
    Calls Tryd.prog 4 #[.string s] w fun e w' => e = .returned (.bool true) ∧ Below w.heap.size w w' := by
  by_cases hs : s.size ≤ 3000
  · cases hc : cut 0 (its s (gap s 0)) with
    | none => exact again_ok s w hs hT hc
    | some x => exact again_err s w hs hT x.1 x.2 hc
  · exact again_long s w hs hm hT
end Go.Proofs.YtaokedpcijmncaaDoor
