/- The law 'BeliefCertain': of at most eight values, each sent as an order after the one before it was confirmed, the last one is certain; and sent without confirmations, the value reported with the greatest sequence number is certain. -/
import Derived.Test.YtigpopemllamdaaCj
import Derived.Test.YtigpopemllamdaaCa
import Derived.ProofKit
namespace Go.Proofs.Ytigpopemllamdaa.beliefCertain
open Go.ChangeShapes Go.WideShapes Go.ChangeAt Go.RowKit Go.WideMaps Go.WideElems
open Go.ChangeMaps (open_string shut_string)

set_option maxRecDepth 100000 in
theorem lifted (os : Os) (started : os.Started) (H : Type) (enc : TypeId × Value → H) :
    ReturnsInHanded {} Try.checked os 8 .any (Rows.beliefCertainSpec.pre6 enc Try.prog Try.f8 Rows.beliefCertainRow.domain false) (Rows.beliefCertainSpec.post enc Try.prog Try.f8 false true false false) := by
  refine returnsInHanded_of_change (C := Try.checked) ownK started (by kernel_rfl) Try.func8
    (ChangeSpec.witness6 (enc := enc) (C := Try.checked) false ⟨#[], #[Value.int .u8 0, .slice none 0 0, .int .u8 0], []⟩ 8 (by kernel_rfl) (by kernel_rfl) (by kernel_rfl) (by kernel_rfl)) ?_
  intro W base args ds gs before hval0 hW hcnd _
  have hval : ∀ (j : Nat) t v, Try.f8.params[j]? = some t → args[j]? = some v → Value.okWide Try.prog W .any base t v := hval0
  have hW' := hW
  obtain ⟨p, q, hA0, hV, rfl, hfz, hnd⟩ := hW
  have hA : DataW.TrodAll enc Try.prog W 0 (fun _ => true) true Try.f8.params.toList args.toList ds p := hA0
  rw [Try.params8] at hA hval
  obtain ⟨v0, vs0, d0, ds0, p0, q0, hargs, rfl, rfl, h0, r0⟩ := trodAll_cons hA
  obtain ⟨v1, vs1, d1, ds1, p1, q1, rfl, rfl, rfl, h1, r1⟩ := trodAll_cons r0
  obtain ⟨v2, vs2, d2, ds2, p2, q2, rfl, rfl, rfl, h2, r2⟩ := trodAll_cons r1
  obtain ⟨rfl, rfl, rfl⟩ := trodAll_nil r2
  obtain rfl : args = #[v0, v1, v2] := by cases args; simp_all
  obtain ⟨rfl, rfl⟩ := trodVars_none hV
  have f0 := fun (W' : World) (hb : Below W.heap.size W W') => Below.trod (enc := enc) laidO (by kernel_rfl) (of_decide_eq_true (by kernel_rfl)) h0 hb (fun x hx => hW'.lt x (by simp [hx]))
  obtain ⟨x0, rfl, a0, b0⟩ := arg_int Try.underlying5 (hval 0 5 v0 rfl rfl) h0
  have a0 : 0 ≤ x0 := a0
  have b0 : x0 ≤ 255 := b0
  have f1 := fun (W' : World) (hb : Below W.heap.size W W') => Below.trod (enc := enc) laidO (by kernel_rfl) (of_decide_eq_true (by kernel_rfl)) h1 hb (fun x hx => hW'.lt x (by simp [hx]))
  obtain ⟨l1, a1⟩ := arg_u8s (hval 1 59 v1 rfl rfl) h1
  have f2 := fun (W' : World) (hb : Below W.heap.size W W') => Below.trod (enc := enc) laidO (by kernel_rfl) (of_decide_eq_true (by kernel_rfl)) h2 hb (fun x hx => hW'.lt x (by simp [hx]))
  obtain ⟨x2, rfl, a2, b2⟩ := arg_int Try.underlying5 (hval 2 5 v2 rfl rfl) h2
  have a2 : 0 ≤ x2 := a2
  have b2 : x2 ≤ 255 := b2
  clear hA0 hval0
  simp only [List.append_nil] at hW'
  refine (certain_any x0 v1 l1 x2 W a0 b0 a1 a2 b2).mono fun e W' ⟨he, hb⟩ => ?_
  subst he
  exact ⟨_, rfl, _, _, _, [], _, [], hW', trodAll_mk1 (shut_bool Try.underlying4 _), (trodAll_cons_mk (f0 _ hb) (trodAll_cons_mk (f1 _ hb) (trodAll_cons_mk (f2 _ hb) trodAll_mk0))), rfl, hb.frame _, fun h => by cases h⟩

/-- BeliefCertain. -/
theorem said : Rows.BeliefCertainSaid :=
  OpenClaim.holds_of_wide 8 Try.f8 rfl rfl rfl rfl rfl rfl rfl ⟨rfl, rfl, rfl, rfl, rfl⟩ rfl rfl rfl rfl rfl (by kernel_rfl) Try.func8 (by kernel_rfl)
    (of_decide_eq_true (by kernel_rfl)) (by unfold Func.isWrapper; first | (rw [if_pos (by decide +kernel)]; kernel_rfl) | (rw [if_neg (by decide +kernel)]; exact ⟨rfl, rfl⟩))
    (fun os started H enc _ => lifted os started H enc)
end Go.Proofs.Ytigpopemllamdaa.beliefCertain
