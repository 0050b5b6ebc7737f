/- The walk of JoinChanged. -/
import Derived.Test.YtoggmladiakblaaJxssb
import Derived.Test.YtoggmladiakblaaJxssg
import Derived.Test.YtoggmladiakblaaJxsdb
import Derived.Test.YtoggmladiakblaaJxsdg
import Derived.Test.YtoggmladiakblaaJxdsb
import Derived.Test.YtoggmladiakblaaJxdsg
import Derived.Test.YtoggmladiakblaaJxddb
import Derived.Test.YtoggmladiakblaaJxddg
namespace Go.Proofs.Ytoggmladiakblaa
open Go.RowKit

theorem changed_any (code a b proof pub : Int) (w : World) : Calls Try.prog 6 #[.int .i64 code, .int .i64 a, .int .i64 b, .int .i64 proof, .int .i64 pub] w fun e w' => e = .returned (.bool true) ∧ Below w.heap.size w w' := by
  obtain ⟨p, hp⟩ : ∃ p, pw 7 a = p := ⟨_, rfl⟩
  obtain ⟨q, hq⟩ : ∃ q, pw 7 b = q := ⟨_, rfl⟩
  cases ha : accB p with
  | false => exact changed_no code a b proof pub p q w hp hq (meetsNo hq ha) (.dev (vld_new hp) rfl rfl (by decide))
  | true =>
    cases hb : accB q with
    | false => exact changed_no2 code a b proof pub p q _ w hp hq (meets hq ha) (.agreeNo (vld_new hp) rfl rfl rfl hb)
    | true =>
      have hw1 := meets (c := code) hq ha
      have hw2 : RW code a p 0 0 false false 2 q (prf code b q p true 1) 0 (jc code a p q (pw q a) false true) (hc3 3 0 (prf code a p q false 2)) := .agree (vld_new hp) rfl rfl rfl hb (by rw [prf_meet code hp hq]; simp)
      have hw3 : proof ≠ prf code b q p true 1 → RW code a p 0 0 false false 2 q proof 17 zj zh := fun h => .agreeBad (vld_new hp) rfl rfl rfl hb (by rw [← prf_meet code hp hq]; simpa using h)
      have hw4 : proof ≠ prf code a p q false 2 → RW code b q p 0 true false 3 0 proof 17 zj zh := fun h => .finBad (vld_met (by simp [hq]) ha) rfl rfl rfl (acc_ne ha) (by rw [prf_meet code hp hq]; simpa using h)
      cases hc : accB pub with
      | false =>
        by_cases hr : proof = prf code b q p true 1
        · by_cases ht : proof = prf code a p q false 2
          · exact chg_ss_no code a b proof pub p q _ _ _ w hp hq hw1 hw2 hr ht hc
          · exact chg_sd_no code a b proof pub p q _ _ _ w hp hq hw1 hw2 hr ht (hw4 ht) hc
        · by_cases ht : proof = prf code a p q false 2
          · exact chg_ds_no code a b proof pub p q _ _ _ w hp hq hw1 hw2 hr (hw3 hr) ht hc
          · exact chg_dd_no code a b proof pub p q _ _ _ w hp hq hw1 hw2 hr (hw3 hr) ht (hw4 ht) hc
      | true =>
        by_cases hu : pub = q
        · by_cases hr : proof = prf code b q p true 1
          · by_cases ht : proof = prf code a p q false 2
            · exact chg_ss_eq code a b proof pub p q _ _ _ w hp hq hw1 hw2 hr ht hc hu
            · exact chg_sd_eq code a b proof pub p q _ _ _ w hp hq hw1 hw2 hr ht (hw4 ht) hc hu
          · by_cases ht : proof = prf code a p q false 2
            · exact chg_ds_eq code a b proof pub p q _ _ _ w hp hq hw1 hw2 hr (hw3 hr) ht hc hu
            · exact chg_dd_eq code a b proof pub p q _ _ _ w hp hq hw1 hw2 hr (hw3 hr) ht (hw4 ht) hc hu
        · by_cases hd : prf code b q p true 1 = prf code a p pub false 1
          · have hw5 : RW code a p 0 0 false false 2 pub (prf code b q p true 1) 0 (jc code a p pub (pw pub a) false true) (hc3 3 0 (prf code a p pub false 2)) := .agree (vld_new hp) rfl rfl rfl hc (by rw [hd]; simp)
            have hd1 : Dg (code :: 4 :: nums a p q false 1) = prf code b q p true 1 := by rw [prf_meet code hp hq]; rfl
            have hd2 : Dg (code :: 4 :: nums a p pub false 1) = prf code b q p true 1 := by rw [hd]; rfl
            by_cases hr : proof = prf code b q p true 1
            · by_cases ht : proof = prf code a p q false 2
              · exact chg_ss_good code a b proof pub p q _ _ _ _ _ w hp hq hw1 hw2 hr ht hc hu hw5 hd1 hd2
              · exact chg_sd_good code a b proof pub p q _ _ _ _ _ w hp hq hw1 hw2 hr ht (hw4 ht) hc hu hw5 hd1 hd2
            · by_cases ht : proof = prf code a p q false 2
              · exact chg_ds_good code a b proof pub p q _ _ _ _ _ w hp hq hw1 hw2 hr (hw3 hr) ht hc hu hw5 hd1 hd2
              · exact chg_dd_good code a b proof pub p q _ _ _ _ _ w hp hq hw1 hw2 hr (hw3 hr) ht (hw4 ht) hc hu hw5 hd1 hd2
          · have hw5 : RW code a p 0 0 false false 2 pub (prf code b q p true 1) 17 zj zh := .agreeBad (vld_new hp) rfl rfl rfl hc (by simpa using hd)
            by_cases hr : proof = prf code b q p true 1
            · by_cases ht : proof = prf code a p q false 2
              · exact chg_ss_bad code a b proof pub p q _ _ _ w hp hq hw1 hw2 hr ht hc hu hw5
              · exact chg_sd_bad code a b proof pub p q _ _ _ w hp hq hw1 hw2 hr ht (hw4 ht) hc hu hw5
            · by_cases ht : proof = prf code a p q false 2
              · exact chg_ds_bad code a b proof pub p q _ _ _ w hp hq hw1 hw2 hr (hw3 hr) ht hc hu hw5
              · exact chg_dd_bad code a b proof pub p q _ _ _ w hp hq hw1 hw2 hr (hw3 hr) ht (hw4 ht) hc hu hw5
end Go.Proofs.Ytoggmladiakblaa
