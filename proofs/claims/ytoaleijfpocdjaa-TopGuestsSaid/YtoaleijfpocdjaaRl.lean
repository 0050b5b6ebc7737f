/- Sets of tags: the reference's 'Check'; how many tags the laws take. -/
import Derived.Test.YtoaleijfpocdjaaRk
import Derived.Test.YtoaleijfpocdjaaRj
namespace Go.Proofs.Ytoaleijfpocdjaa
open Go.RowKit

theorem ckE_ne (r v t u k x : Int) : ckE r v t u k x ≠ 15 := by
  unfold ckE unl
  split
  · split <;> decide
  · split
    · split <;> decide
    · split
      · split <;> decide
      · split
        · split <;> decide
        · split <;> decide
theorem prL_ne (r v t u : Int) : ∀ l : List Cv, prL r v t u l ≠ 15
  | [] => by unfold prL; decide
  | c :: l => by
    unfold prL
    split
    · exact prL_ne r v t u l
    · exact ckE_ne _ _ _ _ _ _
theorem ck_tag {key id tag : Int} {l : List Cv} {r v x t u : Int} (h : ckV key id tag l r v x t u = 15) : chB key id tag l = [] := by
  unfold ckV at h
  split at h
  · split at h
    · exfalso
      unfold pmE at h
      split at h
      · exact prL_ne _ _ _ _ _ h
      · exact absurd h (by decide)
    · rename_i hg
      unfold chB
      rw [if_neg hg]
  · exact absurd h (by decide)
end Go.Proofs.Ytoaleijfpocdjaa
