/- The contracts of the reference's digests and tags. -/
import Derived.Test.YtiiehoeoaalbmaaCd
namespace Go.Proofs.Ytiiehoeoaalbmaa
open Go.RowKit

theorem modulus_any (w : World) : Calls Try.prog 71 #[] w fun e w' => e = .returned (.int .i64 2147483647) ∧ w = w' := by
  go_enter Try.func71, Try.ntmps71
  go_wp2
  go_ret
  exact ⟨rfl, rfl⟩
set_option maxHeartbeats 1000000 in
theorem rrem_any (n m : Int) (w : World) (hm : 0 < m) (h2 : m ≤ 2147483647) :
    Calls Try.prog 75 #[.int .i64 n, .int .i64 m] w fun e w' => e = .returned (.int .i64 (n % m)) ∧ w = w' := by
  have hs := tmod_split hm n
  obtain ⟨b1, b2⟩ := tmod_wrap hm h2 n
  by_cases h : n.tmod m < 0
  · rw [if_pos h] at hs
    have HS := Lib.hid hs
    clear hs
    go_enter Try.func75, Try.ntmps75
    go_wp2
    go_ret
    exact ⟨ret_int HS.out.symm, rfl⟩
  · rw [if_neg h] at hs
    have HS := Lib.hid hs
    clear hs
    go_enter Try.func75, Try.ntmps75
    go_wp2
    go_ret
    exact ⟨ret_int HS.out.symm, rfl⟩
theorem modulus_q (w : World) (n : Nat) : Calls Try.prog 71 #[] (w.drewN n) fun e w' => e = .returned (.int .i64 2147483647) ∧ w' = w.drewN n := (modulus_any _).mono fun _ _ h => ⟨h.1, h.2.symm⟩
theorem rrem_q (x : Int) (w : World) (n : Nat) : Calls Try.prog 75 #[.int .i64 x, .int .i64 2147483647] (w.drewN n) fun e w' => e = .returned (.int .i64 (x % 2147483647)) ∧ w' = w.drewN n := (rrem_any x _ _ (by omega) (by omega)).mono fun _ _ h => ⟨h.1, h.2.symm⟩
set_option maxRecDepth 100000 in
set_option maxHeartbeats 2000000 in
theorem rsum_any (v : Value) (l : List Int) (w : World) (h : IntsAt w v l) :
    Calls Try.prog 63 #[v] w fun e w' => e = .returned (.int .i64 (Dg l)) ∧ ∃ n, w' = w.drewN n := by
  obtain ⟨a, cap, rfl, hm, hc⟩ := h
  unfold maxLen at hm
  have HC := Lib.hid hc
  clear hc
  go_enter Try.func63, Try.ntmps63
  go_wp2_with fail
  go_loopw [3, 4] (fun d i wr => ∃ k n : Nat, k ≤ l.length ∧ i = .int .i64 k ∧ d = .int .i64 (Dg (l.take k)) ∧ wr = w.drewN n) (fun _ i _ => l.length - (intOf i).toNat)
  case atStart => exact ⟨0, 0, by omega, rfl, rfl, rfl⟩
  case round =>
    obtain ⟨k, n, hk, rfl, rfl, rfl⟩ := hrel
    by_cases hlt : k < l.length
    · obtain ⟨b, off, rfl, hcs⟩ := HC.out (by intro h; rw [h] at hlt; simp at hlt)
      have hx := hcs k _ (getD_of hlt)
      have HT := Lib.hid (show Dg (l.take (k + 1)) = dg (Dg (l.take k)) (l.getD k 0) by rw [List.take_succ_eq_append_getElem hlt, Dg_snoc]; simp [hlt])
      obtain ⟨g1, g2⟩ := Dg_bd (l.take k)
      clear hcs
      obtain ⟨wq, hwq⟩ : ∃ wq, w.drewN n = wq := ⟨_, rfl⟩
      have hx2 : wq.cell? ⟨b, off + k, none⟩ = some (.int .i64 (l.getD k 0)) := by rw [← hwq]; exact hx
      rw [hwq]
      have HW := Lib.hid hwq
      clear hwq hx
      generalize l.getD k 0 = x at *
      generalize Dg (l.take k) = d at *
      have g3 : 0 ≤ x % 2147483647 := Int.emod_nonneg _ (by omega)
      have g4 : x % 2147483647 < 2147483647 := Int.emod_lt_of_pos _ (by omega)
      have q1 : IntKind.i64.wrap (d * 1000003) = d * 1000003 := IntWalk.i64_in _ (by omega)
      have q2 : IntKind.i64.wrap (d * 1000003 + x % 2147483647) = d * 1000003 + x % 2147483647 := IntWalk.i64_in _ (by omega)
      have q3 : IntKind.i64.wrap (d * 1000003 + x % 2147483647 + 1) = d * 1000003 + x % 2147483647 + 1 := IntWalk.i64_in _ (by omega)
      have q4 : (d * 1000003 + x % 2147483647 + 1).tmod 2147483647 = (d * 1000003 + x % 2147483647 + 1) % 2147483647 := Int.tmod_eq_emod_of_nonneg (by omega)
      go_wp2_with fail
      go_quiet (first | (go_at_call 71; exact Calls.quiet_of_same (modulus_q _ _)) | (go_at_call 75; exact Calls.quiet_of_same (rrem_q _ _ _)))
      clear q1 q2 q3 q4
      go_wp2
      go_roundw
      case rel => exact ⟨k + 1, _, by omega, by go_num, by rw [HT.out]; rfl, by rw [← HW.out]; exact World.drewN_drewN _ _ _⟩
      case measure => simp [intOf]; omega
    · have HL := Lib.hid (show l.take k = l from List.take_of_length_le (by omega))
      go_wp2
      go_ret
      exact ⟨ret_int (by rw [HL.out]), _, rfl⟩
set_option maxRecDepth 100000 in
set_option maxHeartbeats 2000000 in
theorem rtagged_any (key : Int) (v : Value) (l : List Int) (w : World) (h : IntsAt w v l) (hl : l.length ≤ 100000) (hn : l ≠ []) :
    Calls Try.prog 68 #[.int .i64 key, v] w fun e w' => ∃ u, e = .returned u ∧ IntsAt w' u (key :: (l.length : Int) :: l) ∧ Below w.heap.size w w' := by
  have H := Lib.hid h
  obtain ⟨a, cap, rfl, hm, hc⟩ := h
  unfold maxLen at hm
  have HC := Lib.hid hc
  clear hc
  obtain ⟨i0, hi, hz0, hz1, hz2⟩ := info_parts infoInt
  have c1 : 2 + l.length ≤ maxLen := by unfold maxLen; omega
  have c2 : (2 + l.length) * 8 ≤ 140737488355328 := by omega
  have HR := Lib.hid (show (w.alloc (.cells #[.int .i64 key, .int .i64 (l.length : Int)] 3)).ownsRow w.heap.size 3 1 (.slice (some ⟨w.heap.size, 0, none⟩) 2 2) 2 [.int .i64 key, .int .i64 (l.length : Int)] from
    ⟨rfl, .inr ⟨w.heap.size, 2, _, rfl, Nat.le_refl _, heap_alloc_new _ _, by omega, by unfold maxLen; omega, rfl, rfl⟩⟩)
  obtain ⟨b, off, rfl, hcs⟩ := HC.out hn
  have HN := Lib.hid (show ∀ j u, (l.map (Value.int .i64))[j]? = some u → (w.alloc (.cells #[.int .i64 key, .int .i64 (l.length : Int)] 3)).cell? ((⟨b, off, none⟩ : Addr).add j) = some u from fun j u hu => by
    rw [List.getElem?_map] at hu
    cases hj : l[j]? with
    | none => rw [hj] at hu; cases hu
    | some x =>
      rw [hj] at hu
      simp only [Option.map_some, Option.some.injEq] at hu
      subst hu
      rw [Go.WideShapes.add_plain]
      exact keep1 (al _ _) (hcs j x hj))
  clear hcs
  go_enter Try.func68, Try.ntmps68
  go_wp2_with (at_builtin; refine wpList_append_own _ rfl _ _ 22 rfl w.heap.size 3 i0 (.int .i64 0) 1 8 Try.underlying22 hi hz0 hz1 hz2 rfl (by decide) _ _ _ rfl HR.out ⟨b, off, none⟩ l.length cap (l.map (Value.int .i64)) rfl (by simp) HN.out (by simp [Value.oneCell']) c1 c2 (by simp) ?_; intro v' w1 hown hgrow _; have HO := Lib.hid hown; have HG := Lib.hid hgrow; clear hown hgrow)
  have HI := Lib.hid (ints_of_row (xs := key :: (l.length : Int) :: l) (show w1.ownsRow w.heap.size 3 1 v' (l.length + 1 + 1) _ by rw [show l.length + 1 + 1 = 2 + l.length by omega]; exact HO.out))
  have HB := Lib.hid ((al w (.cells #[.int .i64 key, .int .i64 (l.length : Int)] 3)).grown HG.out (by simp) (fun k e => by cases e; exact Nat.le_refl _))
  have HP := Lib.hid (show IntsAt w1 v' (key :: (l.length : Int) :: l) ∧ Below w.heap.size w w1 from ⟨HI.out, HB.out⟩)
  clear HI HB
  go_wp2
  go_ret
  exact ⟨_, rfl, HP.out⟩
theorem rtag_any (key : Int) (v : Value) (l : List Int) (w : World) (h : IntsAt w v l) (hl : l.length ≤ 100000) (hn : l ≠ []) :
    Calls Try.prog 45 #[.int .i64 key, v] w fun e w' => e = .returned (.int .i64 (Dg (key :: (l.length : Int) :: l))) ∧ Below w.heap.size w w' := by
  have H := Lib.hid h
  obtain ⟨a, cap, rfl, -, -⟩ := h
  have HL := Lib.hid hl
  have HN := Lib.hid hn
  clear hl hn
  go_enter Try.func45, Try.ntmps45
  go_wp2_with fail
  refine (rtagged_any key _ l _ H.out HL.out HN.out).mono ?_
  rintro e w1 ⟨u, rfl, hu, b1⟩
  have HU := Lib.hid hu
  clear hu
  go_wp2_with fail
  refine (rsum_any _ _ _ HU.out).mono ?_
  rintro e w2 ⟨rfl, n, rfl⟩
  go_wp2
  go_ret
  exact ⟨rfl, b1.trans (below_drewN' _ _ _)⟩
end Go.Proofs.Ytiiehoeoaalbmaa
