import Derived.Test.YtnanndmpbecdiaaLc
namespace Go.Proofs.Ytnanndmpbecdiaa
open Go.RowKit

set_option maxRecDepth 100000 in
set_option maxHeartbeats 2000000 in
theorem holds_any (h f u now : Int) (w : World) : Calls Try.prog 8 #[.agg (lsc h f u), .int .i64 now] w fun e w' => e = .returned (.bool (hoB f u now)) ∧ Below w.heap.size w w' := by
  unfold lsc
  by_cases h1 : 0 < f
  · cases h2 : tmB now
    · have HR := Lib.hid (show hoB f u now = false by unfold hoB; rw [h2]; simp)
      have H2 := Lib.hid h2; clear h2
      go_enter Try.func8, Try.ntmps8
      go_wp2_with fail
      refine (isTime_any now _).mono ?_
      rintro e w' ⟨rfl, rfl⟩
      rw [H2.out]
      go_wp2
      go_ret
      exact ⟨ret_bool HR.out.symm, al _ _⟩
    · have HR := Lib.hid (show hoB f u now = decide (now < u) by unfold hoB; rw [h2]; simp [h1])
      have H2 := Lib.hid h2; clear h2
      go_enter Try.func8, Try.ntmps8
      go_wp2_with fail
      refine (isTime_any now _).mono ?_
      rintro e w' ⟨rfl, rfl⟩
      rw [H2.out]
      go_wp2
      go_ret
      exact ⟨ret_bool HR.out.symm, al _ _⟩
  · have HR := Lib.hid (show hoB f u now = false by unfold hoB; simp [h1])
    go_enter Try.func8, Try.ntmps8
    go_wp2
    go_ret
    exact ⟨ret_bool HR.out.symm, al _ _⟩
end Go.Proofs.Ytnanndmpbecdiaa
