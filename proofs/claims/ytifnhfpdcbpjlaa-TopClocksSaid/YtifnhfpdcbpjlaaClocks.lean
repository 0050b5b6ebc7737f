/- Law TopClocks: the hub's own clock ends its lease before any other clock does. -/
import Derived.Test.YtifnhfpdcbpjlaaVr
import Derived.ProofKit
namespace Go.Proofs.Ytifnhfpdcbpjlaa.topClocks
open Go.ChangeShapes Go.WideShapes Go.ChangeAt Go.RowKit Go.WideMaps Go.WideElems
open Go.ChangeMaps (open_string shut_string)

set_option maxRecDepth 100000 in
theorem lifted (os : Os) (started : os.Started) (H : Type) (enc : TypeId × Value → H) :
    ReturnsInHanded {} Try.checked os 3 .any (Rows.topClocksSpec.pre6 enc Try.prog Try.f3 Rows.topClocksRow.domain false) (Rows.topClocksSpec.post enc Try.prog Try.f3 false true false false) := by
  refine returnsInHanded_of_change (C := Try.checked) ownK started (by kernel_rfl) Try.func3
    (ChangeSpec.witness6 (enc := enc) (C := Try.checked) false ⟨#[], #[Value.int .u32 0, .int .u32 0, .int .u32 0, .int .u32 0, .int .u32 0, .int .u32 0, .agg #[.int .i64 0, .int .i64 0, .int .i64 0]], []⟩ 8 (by kernel_rfl) (by kernel_rfl) (by kernel_rfl) (by kernel_rfl)) ?_
  intro W base args ds gs before hval0 hW hcnd _
  have hval : ∀ (j : Nat) t v, Try.f3.params[j]? = some t → args[j]? = some v → Value.okWide Try.prog W .any base t v := hval0
  have hW' := hW
  obtain ⟨p, q, hA0, hV, rfl, hfz, hnd⟩ := hW
  have hA : DataW.TrodAll enc Try.prog W 0 (fun _ => true) true Try.f3.params.toList args.toList ds p := hA0
  rw [Try.params3] at hA hval
  obtain ⟨v0, vs0, d0, ds0, p0, q0, hargs, rfl, rfl, h0, r0⟩ := trodAll_cons hA
  obtain ⟨v1, vs1, d1, ds1, p1, q1, rfl, rfl, rfl, h1, r1⟩ := trodAll_cons r0
  obtain ⟨v2, vs2, d2, ds2, p2, q2, rfl, rfl, rfl, h2, r2⟩ := trodAll_cons r1
  obtain ⟨v3, vs3, d3, ds3, p3, q3, rfl, rfl, rfl, h3, r3⟩ := trodAll_cons r2
  obtain ⟨v4, vs4, d4, ds4, p4, q4, rfl, rfl, rfl, h4, r4⟩ := trodAll_cons r3
  obtain ⟨v5, vs5, d5, ds5, p5, q5, rfl, rfl, rfl, h5, r5⟩ := trodAll_cons r4
  obtain ⟨v6, vs6, d6, ds6, p6, q6, rfl, rfl, rfl, h6, r6⟩ := trodAll_cons r5
  obtain ⟨rfl, rfl, rfl⟩ := trodAll_nil r6
  obtain rfl : args = #[v0, v1, v2, v3, v4, v5, v6] := by cases args; simp_all
  obtain ⟨rfl, rfl⟩ := trodVars_none hV
  have f0 := fun (W' : World) (hb : Below W.heap.size W W') => Below.trod (enc := enc) laidO (by kernel_rfl) (of_decide_eq_true (by kernel_rfl)) h0 hb (fun x hx => hW'.lt x (by simp [hx]))
  obtain ⟨x0, rfl, a0, b0⟩ := arg_int Try.underlying22 (hval 0 22 v0 rfl rfl) h0
  have a0 : 0 ≤ x0 := a0
  have b0 : x0 ≤ 4294967295 := b0
  have f1 := fun (W' : World) (hb : Below W.heap.size W W') => Below.trod (enc := enc) laidO (by kernel_rfl) (of_decide_eq_true (by kernel_rfl)) h1 hb (fun x hx => hW'.lt x (by simp [hx]))
  obtain ⟨x1, rfl, a1, b1⟩ := arg_int Try.underlying22 (hval 1 22 v1 rfl rfl) h1
  have a1 : 0 ≤ x1 := a1
  have b1 : x1 ≤ 4294967295 := b1
  have f2 := fun (W' : World) (hb : Below W.heap.size W W') => Below.trod (enc := enc) laidO (by kernel_rfl) (of_decide_eq_true (by kernel_rfl)) h2 hb (fun x hx => hW'.lt x (by simp [hx]))
  obtain ⟨x2, rfl, a2, b2⟩ := arg_int Try.underlying22 (hval 2 22 v2 rfl rfl) h2
  have a2 : 0 ≤ x2 := a2
  have b2 : x2 ≤ 4294967295 := b2
  have f3 := fun (W' : World) (hb : Below W.heap.size W W') => Below.trod (enc := enc) laidO (by kernel_rfl) (of_decide_eq_true (by kernel_rfl)) h3 hb (fun x hx => hW'.lt x (by simp [hx]))
  obtain ⟨x3, rfl, a3, b3⟩ := arg_int Try.underlying22 (hval 3 22 v3 rfl rfl) h3
  have a3 : 0 ≤ x3 := a3
  have b3 : x3 ≤ 4294967295 := b3
  have f4 := fun (W' : World) (hb : Below W.heap.size W W') => Below.trod (enc := enc) laidO (by kernel_rfl) (of_decide_eq_true (by kernel_rfl)) h4 hb (fun x hx => hW'.lt x (by simp [hx]))
  obtain ⟨x4, rfl, a4, b4⟩ := arg_int Try.underlying22 (hval 4 22 v4 rfl rfl) h4
  have a4 : 0 ≤ x4 := a4
  have b4 : x4 ≤ 4294967295 := b4
  have f5 := fun (W' : World) (hb : Below W.heap.size W W') => Below.trod (enc := enc) laidO (by kernel_rfl) (of_decide_eq_true (by kernel_rfl)) h5 hb (fun x hx => hW'.lt x (by simp [hx]))
  obtain ⟨x5, rfl, a5, b5⟩ := arg_int Try.underlying22 (hval 5 22 v5 rfl rfl) h5
  have a5 : 0 ≤ x5 := a5
  have b5 : x5 ≤ 4294967295 := b5
  have f6 := fun (W' : World) (hb : Below W.heap.size W W') => Below.trod (enc := enc) laidO (by kernel_rfl) (of_decide_eq_true (by kernel_rfl)) h6 hb (fun x hx => hW'.lt x (by simp [hx]))
  obtain ⟨x6, y6, z6, rfl⟩ := arg_lease (hval 6 24 v6 rfl rfl) h6
  clear hA0 hval0
  simp only [List.append_nil] at hW'
  refine (clocks_any x0 x1 x2 x3 x4 x5 x6 y6 z6 W a0 b0 a1 b1 a2 b2 a3 b3 a4 b4 a5 b5).mono fun e W' ⟨he, hb⟩ => ?_
  subst he
  exact ⟨_, rfl, _, _, _, [], _, [], hW', trodAll_mk1 (shut_bool Try.underlying4 _), (trodAll_cons_mk (f0 _ hb) (trodAll_cons_mk (f1 _ hb) (trodAll_cons_mk (f2 _ hb) (trodAll_cons_mk (f3 _ hb) (trodAll_cons_mk (f4 _ hb) (trodAll_cons_mk (f5 _ hb) (trodAll_cons_mk (f6 _ hb) trodAll_mk0))))))), rfl, hb.frame _, fun h => by cases h⟩

/-- TopClocks. -/
theorem said : Rows.TopClocksSaid :=
  OpenClaim.holds_of_wide 3 Try.f3 rfl rfl rfl rfl rfl rfl rfl ⟨rfl, rfl, rfl, rfl, rfl⟩ rfl rfl rfl rfl rfl (by kernel_rfl) Try.func3 (by kernel_rfl)
    (of_decide_eq_true (by kernel_rfl)) (by unfold Func.isWrapper; first | (rw [if_pos (by decide +kernel)]; kernel_rfl) | (rw [if_neg (by decide +kernel)]; exact ⟨rfl, rfl⟩))
    (fun os started H enc _ => lifted os started H enc)
end Go.Proofs.Ytifnhfpdcbpjlaa.topClocks
