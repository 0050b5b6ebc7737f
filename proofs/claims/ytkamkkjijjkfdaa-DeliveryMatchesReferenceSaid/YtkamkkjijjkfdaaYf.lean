/- Windows: Accept, its new slice fresh. -/
import Derived.Test.YtkamkkjijjkfdaaYb
import Derived.Test.YtkamkkjijjkfdaaYc
import Derived.Test.YtkamkkjijjkfdaaYd
import Derived.Test.YtkamkkjijjkfdaaYe
import Derived.Test.YtkamkkjijjkfdaaPf
namespace Go.Proofs.Ytkamkkjijjkfdaa
open Go.RowKit

theorem accF_wf (t : Int) (a : Option Addr) (c : Nat) (L : List Bool) (s : Int) (w : World) (h : BosAt w (.slice a 16 c) L) (hw : WF t L) (hc : 16 ≤ c) : Calls Try.prog 51 #[.agg #[.int .i64 t, .slice a 16 c], .int .i64 s] w (AcF w (accT t L s) (accL t L s) (accE t L s)) := by
  have hi := isw_wf a c hw hc
  obtain ⟨h1, h2, h3, -, -⟩ := hw
  unfold accT accL accE
  by_cases q1 : s < 0 ∨ 1000000 < s
  · rw [if_pos q1, if_pos q1, if_pos q1]
    rcases q1 with q1 | q1
    · exact acf_neg t a 16 c L s w h h1 (by omega) hi q1
    · exact acf_big t a 16 c L s w h h1 (by omega) hi q1
  · rw [if_neg q1, if_neg q1, if_neg q1]
    by_cases q2 : t < s
    · rw [if_pos q2, if_pos q2, if_pos q2]
      exact acf_shift t a c L s w h h1 hi (by omega) (s - t).toNat (by omega)
    · rw [if_neg q2, if_neg q2, if_neg q2]
      by_cases q3 : 16 ≤ t - s
      · rw [if_pos q3, if_pos q3]
        exact acf_far t a 16 c L s w h h1 (by omega) hi (by omega) h3 q3
      · rw [if_neg q3, if_neg q3]
        by_cases q4 : L.getD (t - s).toNat false = true
        · rw [if_pos q4, if_pos q4]
          exact acf_seen t a 16 c L s w h h1 (by omega) hi (by omega) h3 (t - s).toNat (by omega) q4
        · rw [if_neg q4, if_neg q4]
          exact acf_set t a 16 c L s w h h1 (by omega) hi (by omega) h3 (t - s).toNat (by omega) (by simpa using q4)
end Go.Proofs.Ytkamkkjijjkfdaa
