/- For every well-formed windows, minute and further window, the windows in the opposite order, and one of them twice, are as quiet; with the further one, a quiet minute is quiet, and another one is if and only if this window alone covers it; for all arguments. -/
import Derived.Test.YtmejpmnipejpiaaHy
import Derived.Test.YtmejpmnipejpiaaHr
import Derived.ProofKit
import Derived.SizedLaws
import Derived.Deep.Strs
namespace Go.Proofs.Ytmejpmnipejpiaa.hoursWindows
open Go.ChangeShapes Go.WideShapes Go.ChangeAt Go.RowKit Go.WideMaps Go.WideElems
open Go.ChangeMaps (open_string shut_string)

theorem wins_sized {H : Type} {enc : TypeId × Value → H} {w : World} {base : Nat} {sp : Nat → Bool} {held : Bool} {v : Value} {d : DataW H} {p : List MemPlace} {L : List (Int × Int)} (h : DataW.Trod enc Try.prog w base sp held 22 v d p) (hL : WinsAt w v L) : L.length = 0 ∨ ∃ elems spare, d = .slice elems spare ∧ elems.length = L.length := by
  obtain ⟨k, h⟩ := h
  obtain ⟨a, c, rfl, -⟩ := hL
  have h : DataW.trod enc Try.prog w base sp held k 22 [.slice a L.length c] = some (d, p) := h
  rcases Go.Deep.open_slice Try.underlying22 h with ⟨h0, _⟩ | ⟨a2, len, cap, m, k2, D, Pl, hv, _, hl, hm, hmm, hx, _⟩
  · simp only [List.cons.injEq, and_true, Value.slice.injEq] at h0
    exact .inl h0.2.1
  · simp only [List.cons.injEq, and_true, Value.slice.injEq] at hv
    right
    refine ⟨_, _, (Prod.mk.inj hx).1, ?_⟩
    simp [hv.2.1]
theorem bytes40 : Try.checked.prog.bytesOf 40 = 16 := by kernel_rfl
set_option maxRecDepth 100000 in
theorem lifted (os : Os) (started : os.Started) (H : Type) (enc : TypeId × Value → H) :
    ReturnsInHanded {} Try.checked os 7 .any (Rows.hoursWindowsSpec.pre6 enc Try.prog Try.f7 Rows.hoursWindowsRow.domain false) (Rows.hoursWindowsSpec.post enc Try.prog Try.f7 false true false false) := by
  refine returnsInHanded_of_change_sized (C := Try.checked) ownK started (by kernel_rfl) Try.func7
    (ChangeSpec.witness6 (enc := enc) (C := Try.checked) false ⟨#[], #[Value.slice none 0 0, .int .i64 0, .agg #[.int .i64 0, .int .i64 0]], []⟩ 8 (by kernel_rfl) (by kernel_rfl) (by kernel_rfl) (by kernel_rfl)) ?_
  intro W base args ds gs before hval0 hW hcnd hsz _
  have hval : ∀ (j : Nat) t v, Try.f7.params[j]? = some t → args[j]? = some v → Value.okWide Try.prog W .any base t v := hval0
  have hW' := hW
  obtain ⟨p, q, hA0, hV, rfl, hfz, hnd⟩ := hW
  have hA : DataW.TrodAll enc Try.prog W 0 (fun _ => true) true Try.f7.params.toList args.toList ds p := hA0
  rw [Try.params7] at hA hval
  obtain ⟨v0, vs0, d0, ds0, p0, q0, hargs, rfl, rfl, h0, r0⟩ := trodAll_cons hA
  obtain ⟨v1, vs1, d1, ds1, p1, q1, rfl, rfl, rfl, h1, r1⟩ := trodAll_cons r0
  obtain ⟨v2, vs2, d2, ds2, p2, q2, rfl, rfl, rfl, h2, r2⟩ := trodAll_cons r1
  obtain ⟨rfl, rfl, rfl⟩ := trodAll_nil r2
  obtain rfl : args = #[v0, v1, v2] := by cases args; simp_all
  obtain ⟨rfl, rfl⟩ := trodVars_none hV
  have f0 := fun (W' : World) (hb : Below W.heap.size W W') => Below.trod (enc := enc) laidO (by kernel_rfl) (of_decide_eq_true (by kernel_rfl)) h0 hb (fun x hx => hW'.lt x (by simp [hx]))
  obtain ⟨l0, a0⟩ := arg_wins (hval 0 22 v0 rfl rfl) h0
  have f1 := fun (W' : World) (hb : Below W.heap.size W W') => Below.trod (enc := enc) laidO (by kernel_rfl) (of_decide_eq_true (by kernel_rfl)) h1 hb (fun x hx => hW'.lt x (by simp [hx]))
  obtain ⟨x1, rfl, a1, b1⟩ := arg_int Try.underlying3 (hval 1 3 v1 rfl rfl) h1
  have f2 := fun (W' : World) (hb : Below W.heap.size W W') => Below.trod (enc := enc) laidO (by kernel_rfl) (of_decide_eq_true (by kernel_rfl)) h2 hb (fun x hx => hW'.lt x (by simp [hx]))
  obtain ⟨x2, y2, rfl⟩ := arg_win (hval 2 40 v2 rfl rfl) h2
  have hbig : l0.length * 16 ≤ 140737488351232 := by
    rcases wins_sized h0 a0 with e | ⟨el, spr, e1, e2⟩
    · omega
    · have h9 := sized_slice hsz (j := 0) (t := 22) (e := 40) (elems := el) (spare := spr) (by rw [Try.params7]; rfl) (by rw [e1]; rfl) Try.underlying22
      rw [bytes40, e2] at h9
      have h8 : reachBytes = 140737488351232 := by decide
      rw [h8] at h9
      have h7 := Nat.le_trans (Nat.mul_le_mul_right 16 (Nat.le_add_right l0.length spr.length)) h9
      exact h7
  clear hA0 hval0
  simp only [List.append_nil] at hW'
  refine (windows_any v0 l0 x1 x2 y2 W a0 hbig).mono fun e W' ⟨he, hb⟩ => ?_
  subst he
  exact ⟨_, rfl, _, _, _, [], _, [], hW', trodAll_mk1 (shut_bool Try.underlying4 _), (trodAll_cons_mk (f0 _ hb) (trodAll_cons_mk (f1 _ hb) (trodAll_cons_mk (f2 _ hb) trodAll_mk0))), rfl, hb.frame _, fun h => by cases h⟩

/-- HoursWindows. -/
theorem said : Rows.HoursWindowsSaid :=
  OpenClaim.holds_of_wide 7 Try.f7 rfl rfl rfl rfl rfl rfl rfl ⟨rfl, rfl, rfl, rfl, rfl⟩ rfl rfl rfl rfl rfl (by kernel_rfl) Try.func7 (by kernel_rfl)
    (of_decide_eq_true (by kernel_rfl)) (by unfold Func.isWrapper; first | (rw [if_pos (by decide +kernel)]; kernel_rfl) | (rw [if_neg (by decide +kernel)]; exact ⟨rfl, rfl⟩))
    (fun os started H enc _ => lifted os started H enc)
end Go.Proofs.Ytmejpmnipejpiaa.hoursWindows
