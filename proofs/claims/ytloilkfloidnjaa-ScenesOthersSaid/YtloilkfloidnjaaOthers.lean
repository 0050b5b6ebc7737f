/- A further scene at the end of the list, whose name is not among the names, changes nothing; with its name among them there is an overlay exactly if it is there, and the others are known; for all arguments. -/
import Derived.Test.YtloilkfloidnjaaZs
import Derived.Test.YtloilkfloidnjaaR
import Derived.ProofKit
import Derived.SizedLaws
import Derived.Deep.Strs
namespace Go.Proofs.Ytloilkfloidnjaa.scenesOthers
open Go.ChangeShapes Go.WideShapes Go.ChangeAt Go.RowKit Go.WideMaps Go.WideElems
open Go.ChangeMaps (open_string shut_string)

set_option maxRecDepth 100000 in
theorem scns_sized {H : Type} {enc : TypeId × Value → H} {w : World} {base : Nat} {sp : Nat → Bool} {held : Bool} {v : Value} {d : DataW H} {p : List MemPlace} {L : List Scn} (h : DataW.Trod enc Try.prog w base sp held 22 v d p) (hL : ScnsAt w v L) : L.length = 0 ∨ ∃ elems spare, d = .slice elems spare ∧ elems.length = L.length := by
  obtain ⟨k, h⟩ := h
  obtain ⟨a, c, rfl, -⟩ := hL
  have h : DataW.trod enc Try.prog w base sp held k 22 [.slice a L.length c] = some (d, p) := h
  rcases Go.Deep.open_slice Try.underlying22 h with ⟨h0, _⟩ | ⟨a2, len, cap, m, k2, D, Pl, hv, _, hl, hm, hmm, hx, _⟩
  · simp only [List.cons.injEq, and_true, Value.slice.injEq] at h0
    exact .inl h0.2.1
  · simp only [List.cons.injEq, and_true, Value.slice.injEq] at hv
    right
    refine ⟨_, _, (Prod.mk.inj hx).1, ?_⟩
    simp [hv.2.1]
theorem bytes44 : Try.checked.prog.bytesOf 44 = 48 := by kernel_rfl
set_option maxRecDepth 100000 in
theorem lifted (os : Os) (started : os.Started) (H : Type) (enc : TypeId × Value → H) :
    ReturnsInHanded {} Try.checked os 10 .any (Rows.scenesOthersSpec.pre6 enc Try.prog Try.f10 Rows.scenesOthersRow.domain false) (Rows.scenesOthersSpec.post enc Try.prog Try.f10 false true false false) := by
  refine returnsInHanded_of_change_sized (C := Try.checked) ownK started (by kernel_rfl) Try.func10
    (ChangeSpec.witness6 (enc := enc) (C := Try.checked) false ⟨#[], #[Value.slice none 0 0, .slice none 0 0, .agg #[.string ⟨#[]⟩, .int .i64 0, .slice none 0 0]], []⟩ 8 (by kernel_rfl) (by kernel_rfl) (by kernel_rfl) (by kernel_rfl)) ?_
  intro W base args ds gs before hval0 hW hcnd hsz _
  have hval : ∀ (j : Nat) t v, Try.f10.params[j]? = some t → args[j]? = some v → Value.okWide Try.prog W .any base t v := hval0
  have hW' := hW
  obtain ⟨p, q, hA0, hV, rfl, hfz, hnd⟩ := hW
  have hA : DataW.TrodAll enc Try.prog W 0 (fun _ => true) true Try.f10.params.toList args.toList ds p := hA0
  rw [Try.params10] at hA hval
  obtain ⟨v0, vs0, d0, ds0, p0, q0, hargs, rfl, rfl, h0, r0⟩ := trodAll_cons hA
  obtain ⟨v1, vs1, d1, ds1, p1, q1, rfl, rfl, rfl, h1, r1⟩ := trodAll_cons r0
  obtain ⟨v2, vs2, d2, ds2, p2, q2, rfl, rfl, rfl, h2, r2⟩ := trodAll_cons r1
  obtain ⟨rfl, rfl, rfl⟩ := trodAll_nil r2
  obtain rfl : args = #[v0, v1, v2] := by cases args; simp_all
  obtain ⟨rfl, rfl⟩ := trodVars_none hV
  have f0 := fun (W' : World) (hb : Below W.heap.size W W') => Below.trod (enc := enc) laidO (by kernel_rfl) (of_decide_eq_true (by kernel_rfl)) h0 hb (fun x hx => hW'.lt x (by simp [hx]))
  obtain ⟨L0, a0, b0⟩ := arg_scns (hval 0 22 v0 rfl rfl) h0
  have f1 := fun (W' : World) (hb : Below W.heap.size W W') => Below.trod (enc := enc) laidO (by kernel_rfl) (of_decide_eq_true (by kernel_rfl)) h1 hb (fun x hx => hW'.lt x (by simp [hx]))
  obtain ⟨L1, a1, b1⟩ := arg_names (hval 1 23 v1 rfl rfl) h1
  have f2 := fun (W' : World) (hb : Below W.heap.size W W') => Below.trod (enc := enc) laidO (by kernel_rfl) (of_decide_eq_true (by kernel_rfl)) h2 hb (fun x hx => hW'.lt x (by simp [hx]))
  obtain ⟨x2, y2, rfl, a2, b2⟩ := arg_scn (hval 2 44 v2 rfl rfl) h2
  have hbig : L0.length * 48 ≤ 140737488351232 := by
    rcases scns_sized h0 a0 with e | ⟨el, spr, e1, e2⟩
    · omega
    · have h9 := sized_slice hsz (j := 0) (t := 22) (e := 44) (elems := el) (spare := spr) (by rw [Try.params10]; rfl) (by rw [e1]; rfl) Try.underlying22
      rw [bytes44, e2] at h9
      have h8 : reachBytes = 140737488351232 := by decide
      rw [h8] at h9
      have h7 := Nat.le_trans (Nat.mul_le_mul_right 48 (Nat.le_add_right L0.length spr.length)) h9
      exact h7
  clear hA0 hval0
  simp only [List.append_nil] at hW'
  refine (others_walk v0 L0 v1 L1 x2 y2 W a0 b0 a1 b1 a2 b2 hbig).mono fun e W' ⟨he, hb⟩ => ?_
  subst he
  exact ⟨_, rfl, _, _, _, [], _, [], hW', trodAll_mk1 (shut_bool Try.underlying4 _), (trodAll_cons_mk (f0 _ hb) (trodAll_cons_mk (f1 _ hb) (trodAll_cons_mk (f2 _ hb) trodAll_mk0))), rfl, hb.frame _, fun h => by cases h⟩

/-- ScenesOthers. -/
theorem said : Rows.ScenesOthersSaid :=
  OpenClaim.holds_of_wide 10 Try.f10 rfl rfl rfl rfl rfl rfl rfl ⟨rfl, rfl, rfl, rfl, rfl⟩ rfl rfl rfl rfl rfl (by kernel_rfl) Try.func10 (by kernel_rfl)
    (of_decide_eq_true (by kernel_rfl)) (by unfold Func.isWrapper; first | (rw [if_pos (by decide +kernel)]; kernel_rfl) | (rw [if_neg (by decide +kernel)]; exact ⟨rfl, rfl⟩))
    (fun os started H enc _ => lifted os started H enc)
end Go.Proofs.Ytloilkfloidnjaa.scenesOthers
