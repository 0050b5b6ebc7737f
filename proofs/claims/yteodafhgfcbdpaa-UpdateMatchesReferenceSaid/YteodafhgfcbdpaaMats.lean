import Derived.ProofKit
import Derived.Test.YteodafhgfcbdpaaGr
import Derived.Test.YteodafhgfcbdpaaWm
namespace Go.Proofs.Yteodafhgfcbdpaa.updateMatchesReference
open Go.ChangeShapes Go.WideShapes Go.ChangeAt Go.RowKit Go.WideMaps Go.WideElems
open Go.ChangeMaps (open_string shut_string)

set_option maxRecDepth 100000 in
theorem lifted (os : Os) (started : os.Started) (H : Type) (enc : TypeId × Value → H) :
    ReturnsInHanded {} Try.checked os 3 .any (Rows.updateMatchesReferenceSpec.pre6 enc Try.prog Try.f3 Rows.updateMatchesReferenceRow.domain false) (Rows.updateMatchesReferenceSpec.post enc Try.prog Try.f3 false true false false) := by
  refine returnsInHanded_of_change (C := Try.checked) ownK started (by kernel_rfl) Try.func3
    (ChangeSpec.witness6 (enc := enc) (C := Try.checked) false ⟨#[], #[Value.int .i64 0, .int .i64 0, .int .i64 0, .slice none 0 0, .agg #[.int .i64 0, .int .i64 0, .int .i64 0, .int .i64 0, .int .i64 0], .agg #[.int .i64 0, .int .i64 0, .int .i64 0, .int .i64 0, .int .i64 0, .slice none 0 0], .agg #[.int .i64 0, .slice none 0 0, .slice none 0 0]], []⟩ 8 (by kernel_rfl) (by kernel_rfl) (by kernel_rfl) (by kernel_rfl)) ?_
  intro W base args ds gs before hval0 hW hcnd _
  have hval : ∀ (j : Nat) t v, Try.f3.params[j]? = some t → args[j]? = some v → Value.okWide Try.prog W .any base t v := hval0
  have hW' := hW
  obtain ⟨p, q, hA0, hV, rfl, hfz, hnd⟩ := hW
  have hA : DataW.TrodAll enc Try.prog W 0 (fun _ => true) true Try.f3.params.toList args.toList ds p := hA0
  rw [Try.params3] at hA hval
  obtain ⟨v0, vs0, d0, ds0, p0, q0, hargs, rfl, rfl, h0, r0⟩ := trodAll_cons hA
  obtain ⟨v1, vs1, d1, ds1, p1, q1, rfl, rfl, rfl, h1, r1⟩ := trodAll_cons r0
  obtain ⟨v2, vs2, d2, ds2, p2, q2, rfl, rfl, rfl, h2, r2⟩ := trodAll_cons r1
  obtain ⟨v3, vs3, d3, ds3, p3, q3, rfl, rfl, rfl, h3, r3⟩ := trodAll_cons r2
  obtain ⟨v4, vs4, d4, ds4, p4, q4, rfl, rfl, rfl, h4, r4⟩ := trodAll_cons r3
  obtain ⟨v5, vs5, d5, ds5, p5, q5, rfl, rfl, rfl, h5, r5⟩ := trodAll_cons r4
  obtain ⟨v6, vs6, d6, ds6, p6, q6, rfl, rfl, rfl, h6, r6⟩ := trodAll_cons r5
  obtain ⟨rfl, rfl, rfl⟩ := trodAll_nil r6
  obtain rfl : args = #[v0, v1, v2, v3, v4, v5, v6] := by cases args; simp_all
  obtain ⟨rfl, rfl⟩ := trodVars_none hV
  have f0 := fun (W' : World) (hb : Below W.heap.size W W') => Below.trod (enc := enc) laidO (by kernel_rfl) (of_decide_eq_true (by kernel_rfl)) h0 hb (fun x hx => hW'.lt x (by simp [hx]))
  obtain ⟨x0, rfl, a0, b0⟩ := arg_int Try.underlying3 (hval 0 3 v0 rfl rfl) h0
  have f1 := fun (W' : World) (hb : Below W.heap.size W W') => Below.trod (enc := enc) laidO (by kernel_rfl) (of_decide_eq_true (by kernel_rfl)) h1 hb (fun x hx => hW'.lt x (by simp [hx]))
  obtain ⟨x1, rfl, a1, b1⟩ := arg_int Try.underlying3 (hval 1 3 v1 rfl rfl) h1
  have f2 := fun (W' : World) (hb : Below W.heap.size W W') => Below.trod (enc := enc) laidO (by kernel_rfl) (of_decide_eq_true (by kernel_rfl)) h2 hb (fun x hx => hW'.lt x (by simp [hx]))
  obtain ⟨x2, rfl, a2, b2⟩ := arg_int Try.underlying3 (hval 2 3 v2 rfl rfl) h2
  have f3 := fun (W' : World) (hb : Below W.heap.size W W') => Below.trod (enc := enc) laidO (by kernel_rfl) (of_decide_eq_true (by kernel_rfl)) h3 hb (fun x hx => hW'.lt x (by simp [hx]))
  have b3 := cap_ints (hval 3 22 v3 rfl rfl) h3
  obtain ⟨l3, a3⟩ := arg_ints (hval 3 22 v3 rfl rfl) h3
  have f4 := fun (W' : World) (hb : Below W.heap.size W W') => Below.trod (enc := enc) laidO (by kernel_rfl) (of_decide_eq_true (by kernel_rfl)) h4 hb (fun x hx => hW'.lt x (by simp [hx]))
  obtain ⟨m4, rfl⟩ := arg_mf (hval 4 24 v4 rfl rfl) h4
  have f5 := fun (W' : World) (hb : Below W.heap.size W W') => Below.trod (enc := enc) laidO (by kernel_rfl) (of_decide_eq_true (by kernel_rfl)) h5 hb (fun x hx => hW'.lt x (by simp [hx]))
  obtain ⟨m5, u5, L5, rfl, a5⟩ := arg_slot (hval 5 27 v5 rfl rfl) h5
  have f6 := fun (W' : World) (hb : Below W.heap.size W W') => Below.trod (enc := enc) laidO (by kernel_rfl) (of_decide_eq_true (by kernel_rfl)) h6 hb (fun x hx => hW'.lt x (by simp [hx]))
  obtain ⟨x6, s6, l6, t6, k6, rfl, a6, b6⟩ := arg_pc (hval 6 29 v6 rfl rfl) h6
  clear hA0 hval0
  simp only [List.append_nil] at hW'
  refine (match_any x0 x1 x2 v3 l3 m4 m5 u5 L5 x6 s6 l6 t6 k6 W a3 b3 a5 a6 b6).mono fun e W' ⟨he, hb⟩ => ?_
  subst he
  exact ⟨_, rfl, _, _, _, [], _, [], hW', trodAll_mk1 (shut_bool Try.underlying4 _), (trodAll_cons_mk (f0 _ hb) (trodAll_cons_mk (f1 _ hb) (trodAll_cons_mk (f2 _ hb) (trodAll_cons_mk (f3 _ hb) (trodAll_cons_mk (f4 _ hb) (trodAll_cons_mk (f5 _ hb) (trodAll_cons_mk (f6 _ hb) trodAll_mk0))))))), rfl, hb.frame _, fun h => by cases h⟩

/-- UpdateMatchesReference. -/
theorem said : Rows.UpdateMatchesReferenceSaid :=
  OpenClaim.holds_of_wide 3 Try.f3 rfl rfl rfl rfl rfl rfl rfl ⟨rfl, rfl, rfl, rfl, rfl⟩ rfl rfl rfl rfl rfl (by kernel_rfl) Try.func3 (by kernel_rfl)
    (of_decide_eq_true (by kernel_rfl)) (by unfold Func.isWrapper; first | (rw [if_pos (by decide +kernel)]; kernel_rfl) | (rw [if_neg (by decide +kernel)]; exact ⟨rfl, rfl⟩))
    (fun os started H enc _ => lifted os started H enc)
end Go.Proofs.Yteodafhgfcbdpaa.updateMatchesReference
