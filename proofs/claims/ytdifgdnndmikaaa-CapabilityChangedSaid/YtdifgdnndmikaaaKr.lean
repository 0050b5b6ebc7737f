/- Capabilities: the reference's 'Same', of capabilities that are the same. -/
import Derived.Test.YtdifgdnndmikaaaKq
namespace Go.Proofs.Ytdifgdnndmikaaa
open Go.RowKit

set_option maxRecDepth 100000 in
set_option maxHeartbeats 4000000 in
theorem same_yes (id tag : Int) (v v2 : Value) (l : List Cv) (w : World) (h : CvsAt w v l) (h2 : CvsAt w v2 l) : Calls Try.prog 12 #[.agg #[.int .i64 id, v, .int .i64 tag], .agg #[.int .i64 id, v2, .int .i64 tag]] w fun e w' => e = .returned (.bool true) ∧ Below w.heap.size w w' := by
  have HL := Lib.hid h
  have HM := Lib.hid h2
  obtain ⟨a, cap, rfl, -, hm, -⟩ := h
  obtain ⟨a', cap', rfl, -, -, -⟩ := h2
  unfold maxLen at hm
  have HB0 := Lib.hid (al2 (w := w) (o1 := .cells #[.int .i64 id, .slice a l.length cap, .int .i64 tag] 24) (o2 := .cells #[.int .i64 id, .slice a' l.length cap', .int .i64 tag] 24))
  have KA := Lib.hid ((Cs.new w w.heap.size #[.int .i64 id, .slice a l.length cap, .int .i64 tag] 24 rfl).alloc (.cells #[.int .i64 id, .slice a' l.length cap', .int .i64 tag] 24))
  have KB := Lib.hid (Cs.new (w.alloc (.cells #[.int .i64 id, .slice a l.length cap, .int .i64 tag] 24)) (w.heap.size + 1) #[.int .i64 id, .slice a' l.length cap', .int .i64 tag] 24 (by simp))
  go_enter Try.func12, Try.ntmps12
  go_wp2_with fail
  obtain ⟨W1, hW1⟩ : ∃ W1, (w.alloc (.cells #[.int .i64 id, .slice a l.length cap, .int .i64 tag] 24)).alloc (.cells #[.int .i64 id, .slice a' l.length cap', .int .i64 tag] 24) = W1 := ⟨_, rfl⟩
  rw [hW1] at HB0 KA KB ⊢
  clear hW1
  go_loopw [5] (fun i wr => ∃ k : Nat, k ≤ l.length ∧ i = .int .i64 k ∧ Hid (Below W1.heap.size W1 wr)) (fun i _ => l.length - (intOf i).toNat)
  case atStart => exact ⟨0, by omega, rfl, Below.refl _ _⟩
  case round =>
    obtain ⟨k, hk, rfl, HW⟩ := hrel
    have HB := Lib.hid (keep2 HW.out HB0.out)
    have KA1 := Lib.hid (KA.out.step HW.out)
    have KB1 := Lib.hid (KB.out.step HW.out)
    have y1 := KA1.out.c 1 rfl
    have yz := KA1.out.2.2
    have z1 := KB1.out.c 1 rfl
    have zz := KB1.out.2.2
    by_cases hlt : k < l.length
    · obtain ⟨a2, cap2, hva, -, -, hcs⟩ := HL.out.step HB.out
      obtain ⟨rfl, rfl⟩ : a = a2 ∧ cap = cap2 := by simpa using hva
      obtain ⟨b, off, rfl, hcs2⟩ := hcs (by intro h; rw [h] at hlt; simp at hlt)
      obtain ⟨x0, x1⟩ := hcs2 k _ (cv_get hlt)
      obtain ⟨a3, cap3, hvb, -, -, hct⟩ := HM.out.step HB.out
      obtain ⟨rfl, rfl⟩ : a' = a3 ∧ cap' = cap3 := by simpa using hvb
      obtain ⟨b2, off2, rfl, hct2⟩ := hct (by intro h; rw [h] at hlt; simp at hlt)
      obtain ⟨t0, t1⟩ := hct2 k _ (cv_get hlt)
      clear hcs hcs2 hva hct hct2 hvb
      generalize l.getD k zC = c at *
      obtain ⟨ck, cz⟩ := c
      simp only at x0 x1 t0 t1
      have xb := World.block_lt_of_cell? _ _ x0
      have xb : b < wr.heap.size := xb
      have tb := World.block_lt_of_cell? _ _ t0
      have tb : b2 < wr.heap.size := tb
      go_wp2_with fail
      go_quiet (fail)
      go_wp2
      go_roundw
      case rel => exact ⟨k + 1, by omega, by go_num, Lib.hid (HW.out.trans (below_drewN' _ _ _))⟩
      case measure => simp [intOf]; omega
    · obtain rfl : k = l.length := by omega
      go_wp2
      go_ret
      exact ⟨rfl, HB.out⟩
end Go.Proofs.Ytdifgdnndmikaaa
