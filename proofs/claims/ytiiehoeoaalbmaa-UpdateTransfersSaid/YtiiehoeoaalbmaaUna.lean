/- Updates: the numbers of the law's head. -/
import Derived.Test.YtiiehoeoaalbmaaUm
namespace Go.Proofs.Ytiiehoeoaalbmaa
open Go.RowKit

deriving instance DecidableEq for Mf, Pc
theorem hd_spE0 : spE 9 4 2 [1, 2, 3, 4, 5] = 0 := by decide +kernel
theorem hd_spM0_ : spM 9 4 2 [1, 2, 3, 4, 5] 0 = (⟨4, 3, 2, 49659217, 1453941846⟩ : Mf) := by decide +kernel
theorem hd_spL0 : spL 2 [1, 2, 3, 4, 5] 0 = ([⟨0, [1, 2], [643105354, 1400794521]⟩, ⟨1, [3, 4], [641105346, 1400794521]⟩, ⟨2, [5], [-1, 1902135710]⟩] : List Pc) := by decide +kernel
theorem hd_bg1 : bgE 9 3 ⟨4, 3, 2, 49659217, 1453941846⟩ = 0 := by decide +kernel
theorem hd_bg2 : bgE 9 4 ⟨4, 3, 2, 49659217, 1453941846⟩ = 31 := by decide +kernel
theorem hd_bg3 : bgE 8 3 ⟨4, 3, 2, 49659217, 1453941846⟩ = 15 := by decide +kernel
theorem hd_bgM1 : bgM 0 ⟨4, 3, 2, 49659217, 1453941846⟩ = ⟨4, 3, 2, 49659217, 1453941846⟩ := by decide +kernel
theorem hd_bgL1 : bgL 0 ⟨4, 3, 2, 49659217, 1453941846⟩ = [[], [], []] := by decide +kernel
theorem hd_bgM2 : bgM 31 ⟨4, 3, 2, 49659217, 1453941846⟩ = zMf := by decide +kernel
theorem hd_bgL2 : bgL 31 ⟨4, 3, 2, 49659217, 1453941846⟩ = [] := by decide +kernel
theorem hd_bgM3 : bgM 15 ⟨4, 3, 2, 49659217, 1453941846⟩ = zMf := by decide +kernel
theorem hd_bgL3 : bgL 15 ⟨4, 3, 2, 49659217, 1453941846⟩ = [] := by decide +kernel
theorem hd_ad1 : adE ⟨4, 3, 2, 49659217, 1453941846⟩ [[], [], []] 2 [5] [-1, 1902135710] = 0 := by decide +kernel
theorem hd_al1 : adL ⟨4, 3, 2, 49659217, 1453941846⟩ [[], [], []] 2 [5] [-1, 1902135710] = [[], [], [5]] := by decide +kernel
theorem hd_ad2 : adE ⟨4, 3, 2, 49659217, 1453941846⟩ [[], [], [5]] 0 [1, 2] [643105354, 1400794521] = 0 := by decide +kernel
theorem hd_al2 : adL ⟨4, 3, 2, 49659217, 1453941846⟩ [[], [], [5]] 0 [1, 2] [643105354, 1400794521] = [[1, 2], [], [5]] := by decide +kernel
theorem hd_ad3 : adE ⟨4, 3, 2, 49659217, 1453941846⟩ [[1, 2], [], [5]] 2 [5] [-1, 1902135710] = 0 := by decide +kernel
theorem hd_al3 : adL ⟨4, 3, 2, 49659217, 1453941846⟩ [[1, 2], [], [5]] 2 [5] [-1, 1902135710] = [[1, 2], [], [5]] := by decide +kernel
theorem hd_ad4 : adE ⟨4, 3, 2, 49659217, 1453941846⟩ [[1, 2], [], [5]] 1 [3, 5] [641105346, 1400794521] = 17 := by decide +kernel
theorem hd_al4 : adL ⟨4, 3, 2, 49659217, 1453941846⟩ [[1, 2], [], [5]] 1 [3, 5] [641105346, 1400794521] = [[1, 2], [], [5]] := by decide +kernel
theorem hd_ad5 : adE ⟨4, 3, 2, 49659217, 1453941846⟩ [[1, 2], [], [5]] 1 [3, 4] [641105346, 1400794521] = 0 := by decide +kernel
theorem hd_al5 : adL ⟨4, 3, 2, 49659217, 1453941846⟩ [[1, 2], [], [5]] 1 [3, 4] [641105346, 1400794521] = [[1, 2], [3, 4], [5]] := by decide +kernel
theorem hd_jo1 : joE ⟨4, 3, 2, 49659217, 1453941846⟩ [[1, 2], [], [5]] = 28 := by decide +kernel
theorem hd_jd1 : joD 28 [[1, 2], [], [5]] = [] := by decide +kernel
theorem hd_jo2 : joE ⟨4, 3, 2, 49659217, 1453941846⟩ [[1, 2], [3, 4], [5]] = 0 := by decide +kernel
theorem hd_jd2 : joD 0 [[1, 2], [3, 4], [5]] = [1, 2, 3, 4, 5] := by decide +kernel
theorem hd_ms1 : msB ⟨4, 3, 2, 49659217, 1453941846⟩ [[1, 2], [], [5]] = [1] := by decide +kernel
theorem hd_tg1 : Dg [9, 4, 4, 3, 2, 49659217] = 1453941846 := by decide +kernel
end Go.Proofs.Ytiiehoeoaalbmaa
