/- Two different lists with one digest are found. -/
import Derived.Test.YtoggmladiakblaaJs
namespace Go.Proofs.Ytoggmladiakblaa
open Go.RowKit

theorem ints_q (v u : Value) (l l' : List Int) (b : Bool) (w : World) (n : Nat) (h : IntsAt w v l) (h' : IntsAt w u l') (hb : decide (l = l') = b) :
    Calls Try.prog 31 #[v, u] (w.drewN n) fun e w' => e = .returned (.bool b) ∧ ∃ m, w' = (w.drewN n).drewN m := by
  subst hb; exact ints_any v u l l' _ (h.drewN n) (h'.drewN n)
theorem rsum_q (v : Value) (l : List Int) (d : Int) (w : World) (n : Nat) (h : IntsAt w v l) (hd : Dg l = d) :
    Calls Try.prog 32 #[v] (w.drewN n) fun e w' => e = .returned (.int .i64 d) ∧ ∃ m, w' = (w.drewN n).drewN m := by
  subst hd; exact rsum_any v l _ (h.drewN n)
set_option maxRecDepth 100000 in
set_option maxHeartbeats 4000000 in
theorem collide_yes (B : Nat) (v1 v2 : Value) (l1 l2 : List Int) (d : Int) (W : World) (c0 : W.cell? ⟨B, 0, none⟩ = some v1) (c1 : W.cell? ⟨B, 1, none⟩ = some v2) (h1 : IntsAt W v1 l1) (h2 : IntsAt W v2 l2) (hne : l2 ≠ l1) (d1 : Dg l1 = d) (d2 : Dg l2 = d) :
    Calls Try.prog 20 #[.slice (some ⟨B, 0, none⟩) 2 2] W fun e w' => e = .returned (.bool true) ∧ Below W.heap.size W w' := by
  have HN := Lib.hid (decide_eq_false hne)
  have HB := Lib.hid (Below.refl W.heap.size W)
  replace h1 := Lib.hid h1
  replace h2 := Lib.hid h2
  replace d1 := Lib.hid d1
  replace d2 := Lib.hid d2
  replace c0 := Lib.hid c0
  replace c1 := Lib.hid c1
  clear hne
  go_enter Try.func20, Try.ntmps20
  go_wp2_with fail
  go_loopw [3] (fun i wr => ∃ k n : Nat, k ≤ 1 ∧ i = .int .i64 k ∧ wr = W.drewN n) (fun i _ => 2 - (intOf i).toNat)
  case atStart => exact ⟨0, 0, by omega, rfl, rfl⟩
  case round =>
    obtain ⟨k, n, hk, rfl, rfl⟩ := hrel
    by_cases h0 : k = 0
    · subst h0
      clear hk
      go_wp2_with fail
      go_loopw [4] (fun j wr => ∃ n : Nat, j = .int .i64 0 ∧ wr = W.drewN n) (fun _ _ => 0)
      case atStart => exact ⟨_, rfl, rfl⟩
      case round =>
        obtain ⟨n2, rfl, rfl⟩ := hrel
        go_wp2
        go_roundw
        case rel => exact ⟨1, _, by omega, rfl, rfl⟩
        case measure => simp [intOf]
    · obtain rfl : k = 1 := by omega
      clear hk h0
      go_wp2_with fail
      go_loopw [4] (fun j wr => ∃ n : Nat, j = .int .i64 0 ∧ wr = W.drewN n) (fun _ _ => 0)
      case atStart => exact ⟨_, rfl, rfl⟩
      case round =>
        obtain ⟨n2, rfl, rfl⟩ := hrel
        obtain ⟨wq, hwq⟩ : ∃ wq, W.drewN n2 = wq := ⟨_, rfl⟩
        have hb := below_drewN' W.heap.size W n2
        have x0 := keep1 hb c0.out
        have x1 := keep1 hb c1.out
        have i1 := Lib.hid (h1.out.drewN n2)
        have i2 := Lib.hid (h2.out.drewN n2)
        rw [hwq] at hb x0 x1 i1 i2 ⊢
        replace hb := Lib.hid hb
        clear hwq
        go_wp2_with fail
        go_quiet (first | (go_at_call 31; with_reducible exact Calls.quiet_of (ints_q v2 v1 l2 l1 false wq _ i2.out i1.out HN.out)) | (go_at_call 32; with_reducible exact Calls.quiet_of (rsum_q v2 l2 d wq _ i2.out d2.out)) | (go_at_call 32; with_reducible exact Calls.quiet_of (rsum_q v1 l1 d wq _ i1.out d1.out)))
        go_wp2
        go_ret
        exact ⟨rfl, hb.out.trans (below_drewN' _ _ _)⟩
end Go.Proofs.Ytoggmladiakblaa
