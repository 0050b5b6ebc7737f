/- The contracts of 'digest' and 'Tag'. -/
import Derived.Test.YtiiehoeoaalbmaaCr
namespace Go.Proofs.Ytiiehoeoaalbmaa
open Go.RowKit

set_option maxRecDepth 100000 in
set_option maxHeartbeats 1000000 in
theorem digest_any (v : Value) (l : List Int) (w : World) (h : IntsAt w v l) :
    Calls Try.prog 62 #[v] w fun e w' => e = .returned (.int .i64 (Dg l)) ∧ w = w' := by
  obtain ⟨a, cap, rfl, hm, hc⟩ := h
  unfold maxLen at hm
  have HC := Lib.hid hc
  clear hc
  go_enter Try.func62, Try.ntmps62
  go_wp2_with fail
  go_loop [3, 8] (fun d i => ∃ k : Nat, k ≤ l.length ∧ i = .int .i64 k ∧ d = .int .i64 (Dg (l.take k))) (fun _ i => l.length - (intOf i).toNat)
  case atStart => exact ⟨0, by omega, rfl, rfl⟩
  case round =>
    obtain ⟨k, hk, rfl, rfl⟩ := hrel
    by_cases hlt : k < l.length
    · obtain ⟨b, off, rfl, hcs⟩ := HC.out (by intro h; rw [h] at hlt; simp at hlt)
      have hx := hcs k _ (getD_of hlt)
      have HT := Lib.hid (show Dg (l.take (k + 1)) = dg (Dg (l.take k)) (l.getD k 0) by rw [List.take_succ_eq_append_getElem hlt, Dg_snoc]; simp [hlt])
      obtain ⟨g1, g2⟩ := Dg_bd (l.take k)
      clear hcs
      generalize l.getD k 0 = x at *
      generalize Dg (l.take k) = d at *
      have g3 : 0 ≤ x % 2147483647 := Int.emod_nonneg _ (by omega)
      have g4 : x % 2147483647 < 2147483647 := Int.emod_lt_of_pos _ (by omega)
      go_wp2_with fail
      refine (remainder_any x 2147483647 _ (by omega) (by omega)).mono ?_
      rintro e w' ⟨rfl, rfl⟩
      go_wp2_with fail
      refine (remainder_any _ 2147483647 _ (by omega) (by omega)).mono ?_
      rintro e w' ⟨rfl, rfl⟩
      go_wp2
      go_round
      case rel => exact ⟨k + 1, by omega, by go_num, by rw [HT.out]; rfl⟩
      case measure => simp [intOf]; omega
    · have HL := Lib.hid (show l.take k = l from List.take_of_length_le (by omega))
      go_wp2
      go_ret
      exact ⟨ret_int (by rw [HL.out]), rfl⟩

set_option maxRecDepth 100000 in
set_option maxHeartbeats 2000000 in
theorem tag_any (key : Int) (v : Value) (l : List Int) (w : World) (h : IntsAt w v l) (hl : l.length ≤ 100000) (hn : l ≠ []) :
    Calls Try.prog 30 #[.int .i64 key, v] w fun e w' => e = .returned (.int .i64 (Dg (key :: (l.length : Int) :: l))) ∧ Below w.heap.size w w' := by
  have H := Lib.hid h
  obtain ⟨a, cap, rfl, hm, hc⟩ := h
  unfold maxLen at hm
  have HC := Lib.hid hc
  clear hc
  obtain ⟨i0, hi, hz0, hz1, hz2⟩ := info_parts infoInt
  have c1 : 2 + l.length ≤ maxLen := by unfold maxLen; omega
  have c2 : (2 + l.length) * 8 ≤ 140737488355328 := by omega
  have HR := Lib.hid (show (w.alloc (.cells #[.int .i64 key, .int .i64 (l.length : Int)] 3)).ownsRow w.heap.size 3 1 (.slice (some ⟨w.heap.size, 0, none⟩) 2 2) 2 [.int .i64 key, .int .i64 (l.length : Int)] from
    ⟨rfl, .inr ⟨w.heap.size, 2, _, rfl, Nat.le_refl _, heap_alloc_new _ _, by omega, by unfold maxLen; omega, rfl, rfl⟩⟩)
  obtain ⟨b, off, rfl, hcs⟩ := HC.out hn
  have HN := Lib.hid (show ∀ j u, (l.map (Value.int .i64))[j]? = some u → (w.alloc (.cells #[.int .i64 key, .int .i64 (l.length : Int)] 3)).cell? ((⟨b, off, none⟩ : Addr).add j) = some u from fun j u hu => by
    rw [List.getElem?_map] at hu
    cases hj : l[j]? with
    | none => rw [hj] at hu; cases hu
    | some x =>
      rw [hj] at hu
      simp only [Option.map_some, Option.some.injEq] at hu
      subst hu
      rw [Go.WideShapes.add_plain]
      exact keep1 (al _ _) (hcs j x hj))
  clear hcs
  go_enter Try.func30, Try.ntmps30
  go_wp2_with (at_builtin; refine wpList_append_own _ rfl _ _ 22 rfl w.heap.size 3 i0 (.int .i64 0) 1 8 Try.underlying22 hi hz0 hz1 hz2 rfl (by decide) _ _ _ rfl HR.out ⟨b, off, none⟩ l.length cap (l.map (Value.int .i64)) rfl (by simp) HN.out (by simp [Value.oneCell']) c1 c2 (by simp) ?_; intro v' w1 hown hgrow _; have HO := Lib.hid hown; have HG := Lib.hid hgrow; clear hown hgrow)
  have HI := Lib.hid (ints_of_row (xs := key :: (l.length : Int) :: l) (show w1.ownsRow w.heap.size 3 1 v' (l.length + 1 + 1) _ by rw [show l.length + 1 + 1 = 2 + l.length by omega]; exact HO.out))
  have HB := Lib.hid ((al w (.cells #[.int .i64 key, .int .i64 (l.length : Int)] 3)).grown HG.out (by simp) (fun k e => by cases e; exact Nat.le_refl _))
  refine (digest_any _ _ _ HI.out).mono ?_
  rintro e w' ⟨rfl, rfl⟩
  go_wp2
  go_ret
  exact ⟨rfl, HB.out⟩
end Go.Proofs.Ytiiehoeoaalbmaa
