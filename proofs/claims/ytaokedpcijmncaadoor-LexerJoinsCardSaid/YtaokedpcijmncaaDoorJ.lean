/- The contract of the statements' fixed examples: 'head'. -/
import Derived.Test.YtaokedpcijmncaaDoorI
namespace Go.Proofs.YtaokedpcijmncaaDoor
open Go.RowKit Go.Maps

/-- The cells of the first example's tokens. -/
def rowA : Array Value := #[.int .i64 1, .string ⟨#[116]⟩, .int .i64 0, .int .i64 0, .int .i64 3, .string ⟨#[62, 61]⟩, .int .i64 0, .int .i64 2, .int .i64 2, .string ⟨#[50, 49, 46, 53]⟩, .int .i64 215, .int .i64 5, .int .i64 1, .string ⟨#[67]⟩, .int .i64 0, .int .i64 10, .int .i64 3, .string ⟨#[59]⟩, .int .i64 0, .int .i64 11]
theorem rowA_toks (w : World) : ToksAt (w.alloc (.cells rowA 29)).heap.size (w.alloc (.cells rowA 29)) (.slice (some ⟨w.heap.size, 0, none⟩) 5 5) listA := by
  refine ⟨_, 5, rfl, fun _ => ⟨w.heap.size, by simp, rfl, fun i x hx => ?_⟩⟩
  simp only [World.cell?_alloc_new]
  match i, hx with
  | 0, hx => cases hx; exact ⟨rfl, rfl, rfl, rfl⟩
  | 1, hx => cases hx; exact ⟨rfl, rfl, rfl, rfl⟩
  | 2, hx => cases hx; exact ⟨rfl, rfl, rfl, rfl⟩
  | 3, hx => cases hx; exact ⟨rfl, rfl, rfl, rfl⟩
  | 4, hx => cases hx; exact ⟨rfl, rfl, rfl, rfl⟩
  | n + 5, hx => cases hx

set_option maxRecDepth 100000 in
set_option maxHeartbeats 4000000 in
theorem head_any (w : World) (hT : Tab w) : Calls Tryd.prog 9 #[] w fun e w' => e = .returned (.bool true) ∧ Below w.heap.size w w' := by
  have hp := hT.pos
  go_enter Tryd.func9, Tryd.ntmps9
  go_wp2_with fail
  refine (lex_ok _ w (by decide) hT listA itsA cutA).mono ?_
  rintro e w1 ⟨v1, rfl, t1, b1⟩
  have hT1 := hT.below b1 hp
  go_wp2_with fail
  refine (lex_ok _ w1 (by decide) hT1 listB itsB cutB).mono ?_
  rintro e w2 ⟨v2, rfl, t2, b2⟩
  have hT2 := hT1.below b2 hT1.pos
  go_wp2_with fail
  refine (lex_err _ w2 (by decide) hT2 3 2 cutC).mono ?_
  rintro e w3 ⟨rfl, b3⟩
  have hT3 := hT2.below b3 hT2.pos
  go_wp2_with fail
  refine (lex_err _ w3 (by decide) hT3 4 0 cutD).mono ?_
  rintro e w4 ⟨rfl, b4⟩
  have hT4 := hT3.below b4 hT3.pos
  go_wp2_with fail
  refine (lex_err _ w4 (by decide) hT4 4 1 cutE).mono ?_
  rintro e w5 ⟨rfl, b5⟩
  have hT5 := hT4.below b5 hT4.pos
  go_wp2_with fail
  refine (lex_ok _ w5 (by decide) hT5 listF itsF cutF).mono ?_
  rintro e w6 ⟨v6, rfl, t6, b6⟩
  have d5 : Below w5.heap.size w5 w6 := b6
  have d4 : Below w4.heap.size w4 w6 := b5.trans (d5.mono b5.size)
  have d3 : Below w3.heap.size w3 w6 := b4.trans (d4.mono b4.size)
  have d2 : Below w2.heap.size w2 w6 := b3.trans (d3.mono b3.size)
  have d1 : Below w1.heap.size w1 w6 := b2.trans (d2.mono b2.size)
  have HB : Hid (Below w.heap.size w w6) := b1.trans (d1.mono b1.size)
  have T1 := (t1.below d1 (Nat.le_refl _)).mono d1.size
  have T2 := (t2.below d2 (Nat.le_refl _)).mono d2.size
  obtain ⟨a6, c6, rfl, _⟩ := t6
  have HT1 := Lib.hid T1
  obtain ⟨a1, c1, rfl, _⟩ := T1
  obtain ⟨a2, c2, rfl, hc2⟩ := T2
  obtain ⟨g2, hg2, rfl, hcs⟩ := hc2 (by decide)
  have x1 : w6.cell? ⟨g2, 14, none⟩ = some (.int .i64 12) := (hcs 3 _ rfl).2.2.1
  have x2 : w6.cell? ⟨g2, 17, none⟩ = some (.string ⟨#[46]⟩) := (hcs 4 _ rfl).2.1
  have x3 : w6.cell? ⟨g2, 22, none⟩ = some (.int .i64 30) := (hcs 5 _ rfl).2.2.1
  have l1 : listA.length = 5 := rfl
  have l2 : listB.length = 6 := rfl
  have l6 : listF.length = 0 := rfl
  clear hcs hc2 b1 b2 b3 b4 b5 b6 d1 d2 d3 d4 d5 t1 t2 hT hT1 hT2 hT3 hT4 hT5
  rw [l1] at *
  rw [l2, l6]
  clear l1 l2 l6
  go_wp2_with (go_at_call 14; go_must (refine (same_true w6.heap.size _ _ _ _ listA (by decide) (HT1.out.below ((Below.refl _ _).alloc (Nat.le_refl _) _) (Nat.le_refl _)) (rowA_toks w6)).mono ?_); rintro e w' ⟨rfl, n, rfl⟩)
  go_ret
  exact ⟨rfl, (HB.out.alloc HB.out.size _).trans (below_drewN' _ _ _)⟩
end Go.Proofs.YtaokedpcijmncaaDoor
