/- Delivery: 'DeliveryErrors' at any arguments; how a sender opens. -/
import Derived.Test.YtkamkkjijjkfdaaDt
import Derived.Test.YtkamkkjijjkfdaaDo
namespace Go.Proofs.Ytkamkkjijjkfdaa
open Go.RowKit Go.WideShapes Go.ChangeShapes Go.Joins Go.Deep

instance : Inhabited Od := ⟨zO⟩
section
variable {H : Type} {enc : TypeId × Value → H} {w : World} {base : Nat} {sp : Nat → Bool} {held : Bool} {r : Reach} {b0 : Nat} {v : Value} {d : DataW H} {p : List MemPlace}
theorem open_ods {n : Nat} {v : Value} {x : DataW H × List MemPlace} (h : DataW.trod enc Try.prog w base sp held n 22 [v] = some x) : ∃ l, OdsAt w v l := by
  rcases Go.Deep.open_slice Try.underlying22 h with ⟨h0, _⟩ | ⟨a, len, cap, m, k, D, Pl, hv, _, hl, hm, hmm, _, hx⟩
  · simp only [List.cons.injEq, and_true] at h0
    exact ⟨[], by rw [h0]; exact ods_nil w⟩
  · simp only [List.cons.injEq, and_true] at hv
    rw [cells32] at hx
    have hle : len ≤ m := by rw [hmm]; split <;> omega
    obtain ⟨f, hf⟩ := Go.Deep.choose_lt (α := Od) (p := fun i s => w.cells? base (a.add (i * 4)) 4 = some s.cells) (n := len) (fun i hi => by
      obtain ⟨cs', h1, h2⟩ := hx i (by omega)
      obtain ⟨y0, y1, y2, y3, e⟩ := open_od h2
      exact ⟨⟨y0, y1, y2, y3⟩, by rw [h1, e]; rfl⟩)
    refine ⟨(List.range len).map f, some a, cap, by rw [hv]; simp, by simp; omega, by simp; omega, fun hne => ?_⟩
    have hpos : 0 < len := by
      apply Classical.byContradiction; intro h0
      exact hne (by simp; omega)
    have hc := fun i hi => (World.cells?_some (hf i hi)).2.2
    have h00 := hc 0 hpos 0 (by simp)
    rw [Go.Deep.add_add, Nat.zero_mul, Nat.add_zero] at h00
    obtain ⟨b, off, rfl⟩ := plain_of h00
    refine ⟨b, off, rfl, fun i x hi => ?_⟩
    obtain ⟨hlt, rfl⟩ := range_get f len i x hi
    have hj := fun j hj => hc i hlt j hj
    simp only [Go.WideShapes.add_plain] at hj
    have q0 := hj 0 (by simp)
    have q1 := hj 1 (by simp)
    have q2 := hj 2 (by simp)
    have q3 := hj 3 (by simp)
    exact ⟨q0, q1, q2, q3⟩
theorem open_sd {n : Nat} {cs : List Value} {x : DataW H × List MemPlace} (h : DataW.trod enc Try.prog w base sp held n 24 cs = some x) : ∃ (t : Int) (sv : Value) (l : List Od), cs = [.int .i64 t, sv] ∧ OdsAt w sv l := by
  obtain ⟨m, ys, hl, h0, h1⟩ := trod_struct2 Try.underlying24 h
  rw [cells24] at hl
  match cs, hl with
  | [c0, c1], _ =>
    simp only [cells3, cells22, List.drop_zero, List.drop_succ_cons, List.take_succ_cons, List.take_zero] at h0 h1
    obtain ⟨s0, e0, _⟩ := DataW.trod_int Try.underlying3 h0
    obtain ⟨l, hb⟩ := open_ods h1
    simp only [List.cons.injEq, and_true] at e0
    exact ⟨s0, c1, l, by rw [e0], hb⟩
theorem arg_sd (hv : Value.okWide Try.prog w r b0 24 v) (h : DataW.Trod enc Try.prog w base sp held 24 v d p) : ∃ (t : Int) (sv : Value) (l : List Od), v = .agg #[.int .i64 t, sv] ∧ OdsAt w sv l := by
  obtain ⟨cs, rfl, hsz⟩ := okWide_struct Try.underlying24 hv
  obtain ⟨k, h⟩ := h
  obtain ⟨t, sv, l, e, h1⟩ := open_sd h
  refine ⟨t, sv, l, ?_, h1⟩
  congr 1
  exact Array.toList_inj.1 e
end
theorem boolOf (P : Prop) : ∃ r : Bool, r = true ↔ P := by
  by_cases h : P
  · exact ⟨true, fun _ => h, fun _ => rfl⟩
  · exact ⟨false, (fun e => by cases e), fun e => absurd e h⟩
theorem cf_cases {nx q : Int} {P : List Od} {r : Bool} (hr : r = true ↔ SnP nx P) :
    (r = false ∧ cfL nx q P r = P) ∨ (r = true ∧ (P.any fun x => x.a == q) = false ∧ cfL nx q P r = P) ∨
    (r = true ∧ (P.any fun x => x.a == q) = true ∧ ((cfL nx q P r).any fun x => x.a == q) = false ∧ (cfL nx q P r).length + 1 = P.length) := by
  cases r with
  | false => exact .inl ⟨rfl, rfl⟩
  | true =>
    cases hf : fdI q P 0 with
    | none => exact .inr (.inl ⟨rfl, by rw [has_iff, hf]; rfl, by unfold cfL; rw [hf]⟩)
    | some i =>
      have e : cfL nx q P true = P.take i ++ P.drop (i + 1) := by unfold cfL; rw [hf]
      have hi : i < P.length := by have := (fdI_some.1 hf).2.1; omega
      refine .inr (.inr ⟨rfl, by rw [has_iff, hf]; rfl, by rw [e, has_iff, cut_none (hr.1 rfl) hf]; rfl, by rw [e, cut_len hi]; omega⟩)
theorem rw_shape {t : Int} {L : List Bool} {f : Int} {l : List Int} {dn a b c d T : Int} {A : List Bool} {F : Int} {V : List Int} {D : Int} {ok : Bool} {er : Int} (h : RW t L f l dn a b c d T A F V D ok er) :
    (er ≠ 0 ∧ RW t L f l dn a b c d t L f l dn false er) ∨ (er = 0 ∧ ok = true) := by
  cases h with
  | bad h => exact .inl ⟨by decide, RW.bad h⟩
  | old h1 h2 h3 h4 h5 => exact .inl ⟨by decide, RW.old h1 h2 h3 h4 h5⟩
  | low h1 h2 h3 h4 h5 h6 => exact .inl ⟨by decide, RW.low h1 h2 h3 h4 h5 h6⟩
  | known h1 h2 h3 h4 h5 h6 h7 => exact .inr ⟨rfl, rfl⟩
  | did h1 h2 h3 h4 h5 h6 => exact .inr ⟨rfl, rfl⟩
theorem errors_any (nx : Int) (u : Value) (P : List Od) (t f dn : Int) (s v : Value) (L : List Bool) (l : List Int) (a b c d q : Int) (w : World) (hp : OdsAt w u P) (hs : BosAt w s L) (hc : ∀ a n c, s = .slice a n c → n ≤ c) (hv : IntsAt w v l) :
    Calls Try.prog 8 #[.agg #[.int .i64 nx, u], .agg #[.int .i64 t, s, .int .i64 f, v, .int .i64 dn], .agg #[.int .i64 a, .int .i64 b, .int .i64 c, .int .i64 d], .int .i64 q] w fun e w' => e = .returned (.bool true) ∧ Below w.heap.size w w' := by
  have hp2 := hp
  obtain ⟨xa, xc, rfl, -⟩ := hp2
  have hs2 := hs
  obtain ⟨sa, sc, rfl, -⟩ := hs2
  have hv2 := hv
  obtain ⟨va, vc, rfl, -⟩ := hv2
  replace hc := hc _ _ _ rfl
  cases hsm : (decide (P.length ≤ 30) && (decide (l.length ≤ 30) && decide (L.length ≤ 30)))
  · exact errors_big nx t f dn a b c d q xa sa va xc sc vc P L l w hp hs hc hv hsm
  obtain ⟨r, hr⟩ := boolOf (SnP nx P)
  obtain ⟨r2, hr2⟩ := boolOf (SnP nx (cfL nx q P r))
  have h2 := cf_twice hr hr2
  have hPl : P.length ≤ 100000 := by simp at hsm; omega
  obtain ⟨T, A, F, V, D, ok, er, hrw⟩ := rw_total t L f l dn a b c d
  rcases rw_shape hrw with ⟨her, hrw1⟩ | ⟨rfl, rfl⟩
  · rcases cf_cases (q := q) hr with ⟨rfl, h1⟩ | ⟨rfl, hh, h1⟩ | ⟨rfl, hh, hh1, hl1⟩
    · rw [h1] at hr2 h2
      exact errors_e_no nx t f dn a b c d q r2 er xa sa va xc sc vc P L l w hp hs hc hv hsm hrw1 her hr hr2 h1 h2 hPl
    · rw [h1] at hr2 h2
      exact errors_e_out nx t f dn a b c d q r2 er xa sa va xc sc vc P L l w hp hs hc hv hsm hrw1 her hr hr2 h1 h2 hPl hh
    · exact errors_e_in nx t f dn a b c d q r2 _ er xa sa va xc sc vc P L l w hp hs hc hv hsm hrw1 her hr hr2 rfl h2 (by omega) hh hh1 hl1
  · rcases cf_cases (q := q) hr with ⟨rfl, h1⟩ | ⟨rfl, hh, h1⟩ | ⟨rfl, hh, hh1, hl1⟩
    · rw [h1] at hr2 h2
      exact errors_o_no nx t f dn a b c d q r2 T F D A V xa sa va xc sc vc P L l w hp hs hc hv hsm hrw hr hr2 h1 h2 hPl
    · rw [h1] at hr2 h2
      exact errors_o_out nx t f dn a b c d q r2 T F D A V xa sa va xc sc vc P L l w hp hs hc hv hsm hrw hr hr2 h1 h2 hPl hh
    · exact errors_o_in nx t f dn a b c d q r2 _ T F D A V xa sa va xc sc vc P L l w hp hs hc hv hsm hrw hr hr2 rfl h2 (by omega) hh hh1 hl1
end Go.Proofs.Ytkamkkjijjkfdaa
