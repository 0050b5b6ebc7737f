/- Frames as bytes: 'Encode'. -/
import Derived.Test.YtebeaekiaikgmaaFd
namespace Go.Proofs.Ytebeaekiaikgmaa
open Go.RowKit

/-- A list of bytes lies behind a slice. -/
def BysAt (w : World) (v : Value) (l : List Int) : Prop :=
  ∃ a cap, v = .slice a l.length cap ∧ l.length ≤ cap ∧ l.length ≤ maxLen ∧ (l ≠ [] → ∃ b off, a = some ⟨b, off, none⟩ ∧ ∀ (i : Nat) (x : Int), l[i]? = some x → w.cell? ⟨b, off + i, none⟩ = some (.int .u8 x))
theorem BysAt.step {w w1 : World} {v : Value} {l : List Int} (h : BysAt w v l) (hb : Below w.heap.size w w1) : BysAt w1 v l := by
  obtain ⟨a, cap, hv, hk, hm, hc⟩ := h
  refine ⟨a, cap, hv, hk, hm, fun hl => ?_⟩
  obtain ⟨b, off, ha, hx⟩ := hc hl
  exact ⟨b, off, ha, fun i x h => keep1 hb (hx i x h)⟩
theorem bys_nil (w : World) : BysAt w (.slice none 0 0) [] := ⟨none, 0, rfl, Nat.le_refl _, by simp, fun h => absurd rfl h⟩
theorem bys_of_row {w : World} {base : Nat} {t : TypeId} {v : Value} {xs : List Int} (h : w.ownsRow base t 1 v xs.length (xs.map (Value.int .u8))) : BysAt w v xs := by
  rcases h.2 with ⟨rfl, hn⟩ | ⟨g, cap, cur, rfl, hbg, hg, hnc, hcm, hcur, htake⟩
  · have : xs = [] := by simpa using hn
    subst this
    exact bys_nil _
  · have hc := h.cells (g := g) rfl
    refine ⟨_, cap, rfl, hnc, by omega, fun _ => ⟨g, 0, rfl, fun i x hi => ?_⟩⟩
    have := hc i (.int .u8 x) (by rw [List.getElem?_map, hi]; rfl)
    rwa [Go.WideShapes.add_plain] at this
def encO (a b c d : Int) (l : List Int) (t : Int) : List Int := if vaB a b c d l t then encF a b c d l t else []
set_option maxRecDepth 100000 in
set_option maxHeartbeats 8000000 in
theorem encode_no (a b c d : Int) (sl : Value) (l : List Int) (t : Int) (w : World) (h : IntsAt w sl l) (hv : vaB a b c d l t = false) : Calls Try.prog 22 #[.agg #[.int .i64 a, .int .i64 b, .int .i64 c, .int .i64 d, sl, .int .i64 t]] w fun e w' => e = .returned (.slice none 0 0) ∧ Below w.heap.size w w' := by
  have HL0 := Lib.hid h
  obtain ⟨sa, sc, rfl, hm, -⟩ := h
  have HV := Lib.hid hv
  have HC0 := Lib.hid (Cs.new w w.heap.size #[.int .i64 a, .int .i64 b, .int .i64 c, .int .i64 d, .slice sa l.length sc, .int .i64 t] 24 rfl)
  have HB0 := Lib.hid (al w (.cells #[.int .i64 a, .int .i64 b, .int .i64 c, .int .i64 d, .slice sa l.length sc, .int .i64 t] 24))
  have HL1 := Lib.hid (HL0.out.step HB0.out)
  clear hv hm HL0
  have x0 := HC0.out.c 0 rfl
  have x1 := HC0.out.c 1 rfl
  have x2 := HC0.out.c 2 rfl
  have x3 := HC0.out.c 3 rfl
  have x4 := HC0.out.c 4 rfl
  have x5 := HC0.out.c 5 rfl
  have xz := HC0.out.2.2
  go_enter Try.func22, Try.ntmps22
  go_wp2_with fail
  refine (valid_any a b c d _ l t _ HL1.out).mono ?_
  rintro e w1 ⟨rfl, b1⟩
  rw [HV.out]
  have HB1 := Lib.hid (keep2 b1 HB0.out)
  clear b1
  go_wp2
  go_ret
  exact ⟨rfl, HB1.out⟩
set_option maxRecDepth 100000 in
set_option maxHeartbeats 8000000 in
theorem encode_yes (a b c d : Int) (sl : Value) (l : List Int) (t : Int) (w : World) (h : IntsAt w sl l) (hv : vaB a b c d l t = true) : Calls Try.prog 22 #[.agg #[.int .i64 a, .int .i64 b, .int .i64 c, .int .i64 d, sl, .int .i64 t]] w fun e w' => ∃ u, e = .returned u ∧ w'.ownsRow w.heap.size 5 1 u (encF a b c d l t).length ((encF a b c d l t).map (Value.int .u8)) ∧ Below w.heap.size w w' := by
  have HL0 := Lib.hid h
  obtain ⟨sa, sc, rfl, hm, -⟩ := h
  have HV := Lib.hid hv
  have HC0 := Lib.hid (Cs.new w w.heap.size #[.int .i64 a, .int .i64 b, .int .i64 c, .int .i64 d, .slice sa l.length sc, .int .i64 t] 24 rfl)
  have HB0 := Lib.hid (al w (.cells #[.int .i64 a, .int .i64 b, .int .i64 c, .int .i64 d, .slice sa l.length sc, .int .i64 t] 24))
  have HL1 := Lib.hid (HL0.out.step HB0.out)
  clear hv hm
  have x0 := HC0.out.c 0 rfl
  have x1 := HC0.out.c 1 rfl
  have x2 := HC0.out.c 2 rfl
  have x3 := HC0.out.c 3 rfl
  have x4 := HC0.out.c 4 rfl
  have x5 := HC0.out.c 5 rfl
  have xz := HC0.out.2.2
  go_enter Try.func22, Try.ntmps22
  go_wp2_with fail
  refine (valid_any a b c d _ l t _ HL1.out).mono ?_
  rintro e w1 ⟨rfl, b1⟩
  rw [HV.out]
  have HB1 := Lib.hid (keep2 b1 HB0.out)
  have HC1 := Lib.hid ((HC0.out.step b1).step (al w1 (.cells #[.slice none 0 0, .int .i64 0] 73)))
  have HN1 := Lib.hid (Cs.new w1 w1.heap.size #[.slice none 0 0, .int .i64 0] 73 rfl)
  have HB2 := Lib.hid (HB1.out.alloc HB1.out.size (.cells #[.slice none 0 0, .int .i64 0] 73))
  have HSZ := Lib.hid (show w.heap.size < w1.heap.size by have h1 := (al w (.cells #[.int .i64 a, .int .i64 b, .int .i64 c, .int .i64 d, .slice sa l.length sc, .int .i64 t] 24)).size; have h2 := b1.size; simp at h2; omega)
  clear b1 x0 x1 x2 x3 x4 x5 xz HC0 HL1
  have x0 := HC1.out.c 0 rfl
  have x1 := HC1.out.c 1 rfl
  have x2 := HC1.out.c 2 rfl
  have x3 := HC1.out.c 3 rfl
  have x4 := HC1.out.c 4 rfl
  have x5 := HC1.out.c 5 rfl
  have xz := HC1.out.2.2
  go_wp2_with fail
  refine (wframe_any w1.heap.size a b c d _ l t w _ HL0.out HB2.out (Nat.le_of_lt HSZ.out) (by simp) HN1.out HV.out).mono ?_
  rintro e w2 ⟨rfl, hu, b2⟩
  obtain ⟨bv, hC, hrow⟩ := hu
  obtain ⟨ba, bc, rfl⟩ := row_slice hrow
  have HB3 := Lib.hid (HB2.out.trans (b2.mono (Nat.le_of_lt HSZ.out)))
  have HR := Lib.hid hrow
  have z0 := hC.c 0 rfl
  have zz := hC.2.2
  clear x0 x1 x2 x3 x4 x5 xz hrow hC b2
  go_wp2
  go_ret
  exact ⟨_, rfl, row_base0 HR.out (by have := HSZ.out; simp; omega), HB3.out⟩
theorem encode_any (a b c d : Int) (sl : Value) (l : List Int) (t : Int) (w : World) (h : IntsAt w sl l) : Calls Try.prog 22 #[.agg #[.int .i64 a, .int .i64 b, .int .i64 c, .int .i64 d, sl, .int .i64 t]] w fun e w' => ∃ u, e = .returned u ∧ w'.ownsRow w.heap.size 5 1 u (encO a b c d l t).length ((encO a b c d l t).map (Value.int .u8)) ∧ Below w.heap.size w w' := by
  unfold encO
  cases hv : vaB a b c d l t
  · rw [if_neg (by decide)]
    exact (encode_no a b c d sl l t w h hv).mono fun e w' h => ⟨_, h.1, World.ownsRow_nil _ _ _ _, h.2⟩
  · rw [if_pos rfl]
    exact encode_yes a b c d sl l t w h hv
end Go.Proofs.Ytebeaekiaikgmaa
