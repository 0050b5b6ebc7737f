/- Sets of tags: the union of two. -/
import Derived.Test.YtoaleijfpocdjaaRe
import Derived.Test.YtoaleijfpocdjaaIv
import Derived.Deep.AppendLies
import Derived.WalkMore
import Derived.Deep.LoopGhost
import Derived.Laws.OwnMore
import Derived.Test.YtoaleijfpocdjaaKd
namespace Go.Proofs.Ytoaleijfpocdjaa
open Go.RowKit

/-- A list of tags behind a slice that may be cut. -/
def TgAt (w : World) (v : Value) (l : List Int) : Prop := IntsAt w v l ∧ (l = [] ∨ ∃ b off n c, v = .slice (some ⟨b, off, none⟩) n c ∧ n ≤ c)
theorem TgAt.step {w w1 : World} {v : Value} {l : List Int} (h : TgAt w v l) (hb : Below w.heap.size w w1) : TgAt w1 v l := ⟨h.1.step hb, h.2⟩
theorem tg_cons {w : World} {v : Value} {y : Int} {r : List Int} (h : TgAt w v (y :: r)) : ∃ b off c, v = .slice (some ⟨b, off, none⟩) (r.length + 1) c ∧ w.cell? ⟨b, off, none⟩ = some (.int .i64 y) ∧ ((c = 1 ∧ r = []) ∨ ∃ c', c = c' + 2 ∧ TgAt w (.slice (some ⟨b, off + 1, none⟩) r.length (c' + 1)) r) := by
  obtain ⟨⟨a, cap, rfl, hm, hc⟩, h2⟩ := h
  obtain ⟨b, off, rfl, hx⟩ := hc (by simp)
  rcases h2 with h2 | ⟨b2, off2, n, c, h2, hn⟩
  · cases h2
  · cases h2
    simp only [List.length_cons] at hm hn ⊢
    refine ⟨b, off, cap, rfl, hx 0 y rfl, ?_⟩
    rcases cap with _ | _ | c'
    · omega
    · exact .inl ⟨rfl, List.length_eq_zero_iff.1 (by omega)⟩
    refine .inr ⟨c', rfl, ⟨⟨_, _, rfl, by omega, fun _ => ⟨b, off + 1, rfl, fun i x hi => ?_⟩⟩, .inr ⟨b, off + 1, _, _, rfl, by omega⟩⟩⟩
    have := hx (i + 1) x (by simpa using hi)
    rwa [show off + (i + 1) = off + 1 + i by omega] at this
theorem tg_none (w : World) (b off : Nat) : TgAt w (.slice (some ⟨b, off, none⟩) 0 0) [] := ⟨⟨_, _, rfl, by simp, fun h => absurd rfl h⟩, .inl rfl⟩
theorem Cs.stepB {w w1 : World} {n B : Nat} {vs : Array Value} (h : Cs w n vs) (hb : Below B w w1) (hn : n < B) : Cs w1 n vs :=
  ⟨fun j hj => (hb.cell (p := ⟨n, j, none⟩) hn).trans (h.1 j hj), fun j hj => (hb.frozen (p := ⟨n, j, none⟩) hn).trans (h.2.1 j hj), Nat.lt_of_lt_of_le h.2.2 hb.size⟩
/-- The blocks of 'merge', and the union so far. -/
def MS (n0 : Nat) (vs v : Value) (xs : List Int) (w : World) : Prop := Cs w n0 #[vs, .func (.func 41) #[] #[]] ∧ Cs w (n0 + 2) #[.slice none 0 0, .nilFunc] ∧ Cs w (n0 + 3) #[v, .func (.func 41) #[] #[]] ∧ n0 + 4 ≤ w.heap.size ∧ w.ownsRow (n0 + 4) 3 1 v xs.length (xs.map (Value.int .i64))
theorem MS.step {n0 : Nat} {vs v : Value} {xs : List Int} {w w1 : World} (h : MS n0 vs v xs w) (hb : Below w.heap.size w w1) : MS n0 vs v xs w1 := ⟨h.1.step hb, h.2.1.step hb, h.2.2.1.step hb, Nat.le_trans h.2.2.2.1 hb.size, row_step h.2.2.2.2 hb⟩
/-- The row has grown; then it is stored. -/
theorem MS.below {n0 : Nat} {vs v : Value} {xs : List Int} {w w1 : World} {o : Obj} (h : MS n0 vs v xs w) (hg : (w.alloc o).grownBy w1 v.ownBlock) : Below (n0 + 4) w w1 := below_own h.2.2.2.1 (Below.refl _ _) h.2.2.2.2 hg
theorem MS.put {n0 : Nat} {vs v v' : Value} {xs ys : List Int} {w w1 : World} (h : MS n0 vs v xs w) (hb : Below (n0 + 4) w w1) (ho : w1.ownsRow (n0 + 4) 3 1 v' ys.length (ys.map (Value.int .i64))) : MS n0 vs v' ys (w1.setCell ⟨n0 + 3, 0, none⟩ v') :=
  ⟨(h.1.stepB hb (by omega)).other (by omega) _ _, (h.2.1.stepB hb (by omega)).other (by omega) _ _, (h.2.2.1.stepB hb (by omega)).set 0 (by simp) _ rfl, by
    have := hb.size; have := h.2.2.2.1; simp; omega, row_other ho (by omega)⟩
theorem row_snoc {w : World} {b : Nat} {v : Value} {xs : List Int} {y : Int} (h : w.ownsRow b 3 1 v (xs.length + 1) (xs.map (Value.int .i64) ++ [.int .i64 y])) : w.ownsRow b 3 1 v (xs ++ [y]).length ((xs ++ [y]).map (Value.int .i64)) := by
  rw [List.map_append, List.length_append]; exact h
/-- An append of a list of numbers that may be nil, as an equation. -/
theorem run_app (w : World) (base n : Nat) (v sl : Value) (xs : List Value) (l : List Int) (ty : TypeId) (hown : w.ownsRow base 3 1 v n xs) (h : IntsAt w sl l) (hn : n + l.length ≤ 10000) (hb : base ≤ w.heap.size) :
    ∃ v' w', (Builtin.append_ #[27, 27] ty #[v, sl]).run Try.prog w = .ok v' w' ∧ w'.ownsRow base 3 1 v' (n + l.length) (xs ++ l.map (Value.int .i64)) ∧ w.grownBy w' v.ownBlock := by
  obtain ⟨i0, hi, hz0, hz1, hz2⟩ := info_parts infoInt
  obtain ⟨a, cap, rfl, hm, hc⟩ := h
  cases a with
  | none =>
    have hl : l = [] := by
      cases l with
      | nil => rfl
      | cons x l => obtain ⟨b, off, e, -⟩ := hc (by simp); cases e
    subst hl
    have hg : w.grownBy w v.ownBlock := ⟨rfl, rfl, rfl, Nat.le_refl _, fun _ _ _ => rfl⟩
    refine ⟨v, w, ?_, by simpa using hown, hg⟩
    rcases hown.2 with ⟨rfl, rfl⟩ | ⟨g, c, cur, rfl, _, _, hnc, _⟩
    · simp [Builtin.append_, run_underlying Try.underlying27, sizeOf, typeInfo, hi, Builtin.lenOf, Builtin.firstCells]
    · simp [Builtin.append_, run_underlying Try.underlying27, sizeOf, typeInfo, hi, Builtin.lenOf, Builtin.firstCells, hnc, storeCells]
  | some ad =>
    have hcell : ∀ j u, (l.map (Value.int .i64))[j]? = some u → w.cell? (ad.add j) = some u := fun j u hu => by
      rw [List.getElem?_map] at hu
      cases hj : l[j]? with
      | none => rw [hj] at hu; cases hu
      | some x =>
        obtain ⟨b, off, e, hx⟩ := hc (by intro e; rw [e] at hj; cases hj)
        cases e
        rw [hj] at hu
        simp only [Option.map_some, Option.some.injEq] at hu
        subst hu
        rw [Go.WideShapes.add_plain]
        exact hx j x hj
    obtain ⟨v', w', h1, h2, h3, -, -⟩ := run_append_own_at (P := Try.prog) w base 27 ty 3 i0 _ 1 8 Try.underlying27 hi hz0 hz1 hz2 rfl (by decide) v n xs hown ad l.length cap (l.map (Value.int .i64)) (by simp) hcell (by simp [Value.oneCell']) (by unfold maxLen; omega) (by omega) hb
    exact ⟨v', w', h1, h2, h3⟩
theorem wpList_app_g {ops : Array Oper} {rest : List Oper} {o : Oper} {a : Act} {w w' : World} {Q : Exit → Act → World → Prop} (s x : Operand) (t : TypeId)
    (ho : o.op = .call { callee := .builtin .append, args := #[s, x], argTypes := #[t, t] }) (hw : Region.wanted o (yielded ops a.tmps) = true) (v sl v' : Value) (hs : a.eval s = v) (hx : a.eval x = sl)
    (hr : (Builtin.append_ #[t, t] o.type #[v, sl]).run Try.prog w = .ok v' w') (h : wpList Try.prog ops Q rest (a.put o.dst v') w') : wpList Try.prog ops Q (o :: rest) a w := by
  refine wpList_step fun K hK => ?_
  rw [if_pos hw]
  unfold Oper.wp execOp
  simp only [ho, resolve, invoke, builtin, Sem.run_bind, Sem.run_pure, Result.andThen_ok, List.map_toArray, List.map_cons, List.map_nil, hs, hx, hr]
  exact hK _ _ h
/-- The order of the region that appends the other list's element and stores: before the store, and behind it. -/
def NP (lit : (Nat → Value) → Act) (G : Bool → Nat → Value → World → Prop) (B : Bool → World → Prop) (Fin : World → Prop) (bf : Nat → Bool) (ac : Act) (wv : World) : Prop :=
  ∃ vs, ac = lit vs ∧ (bf 8 = true → (∀ i, i < 8 → bf i = true) ∧ Fin wv) ∧ (bf 8 = false → B (bf 6) wv ∧ ∀ i, bf i = true → G (bf 6) i (vs i) wv)
theorem NP.next {lit : (Nat → Value) → Act} {G : Bool → Nat → Value → World → Prop} {B : Bool → World → Prop} {Fin : World → Prop} {bf : Nat → Bool} {wv : World} {vs : Nat → Value} (i : Nat) (hi : i < 8) (h6 : i ≠ 6) {x : Value} {w' : World} {ac' : Act} (hac : ac' = lit (upv vs i x)) (h8 : bf 8 = false)
    (hb : B (bf 6) w') (k : ∀ i, bf i = true → G (bf 6) i (vs i) wv) (hs : ∀ k v, G (bf 6) k v wv → G (bf 6) k v w') (hx : G (bf 6) i x w') : NP lit G B Fin (up bf i) ac' w' := by
  refine ⟨upv vs i x, hac, fun h => ?_, fun _ => ⟨?_, fun j hu => ?_⟩⟩
  · rw [up_ne _ _ _ (by omega), h8] at h; cases h
  · rw [up_ne _ _ _ (show 6 ≠ i by omega)]; exact hb
  · rw [up_ne _ _ _ (show 6 ≠ i by omega)]
    by_cases e : j = i
    · subst e; rw [upv_same]; exact hx
    · rw [up_ne _ _ _ e] at hu; rw [upv_ne _ _ _ _ e]; exact hs _ _ (k j hu)
theorem NP.app {lit : (Nat → Value) → Act} {G : Bool → Nat → Value → World → Prop} {B : Bool → World → Prop} {Fin : World → Prop} {bf : Nat → Bool} {vs : Nat → Value} {x : Value} {w' : World} {ac' : Act} (hac : ac' = lit (upv vs 6 x)) (h8 : bf 8 = false)
    (hb : B true w') (hs : ∀ k, k ≠ 6 → bf k = true → G true k (vs k) w') (hx : G true 6 x w') : NP lit G B Fin (up bf 6) ac' w' := by
  refine ⟨upv vs 6 x, hac, fun h => ?_, fun _ => ⟨?_, fun j hu => ?_⟩⟩
  · rw [up_ne _ _ _ (by omega), h8] at h; cases h
  · rw [up_same]; exact hb
  · rw [up_same]
    by_cases e : j = 6
    · subst e; rw [upv_same]; exact hx
    · rw [up_ne _ _ _ e] at hu; rw [upv_ne _ _ _ _ e]; exact hs j e hu
theorem NP.last {lit : (Nat → Value) → Act} {G : Bool → Nat → Value → World → Prop} {B : Bool → World → Prop} {Fin : World → Prop} {bf : Nat → Bool} {w' : World} {vs : Nat → Value} {ac' : Act} (hac : ac' = lit vs) (ha : ∀ i, i < 8 → bf i = true) (hF : Fin w') : NP lit G B Fin (up bf 8) ac' w' := by
  refine ⟨vs, hac, fun _ => ⟨fun i hi => (by rw [up_ne _ _ _ (by omega)]; exact ha i hi), hF⟩, fun h => ?_⟩
  rw [up_same] at h; cases h
theorem all8 {bf : Nat → Bool} (h0 : bf 0 = true) (h1 : bf 1 = true) (h2 : bf 2 = true) (h3 : bf 3 = true) (h4 : bf 4 = true) (h5 : bf 5 = true) (h6 : bf 6 = true) (h7 : bf 7 = true) : ∀ i, i < 8 → bf i = true := fun i hi => by
  rcases i with _ | _ | _ | _ | _ | _ | _ | _ | i
  · exact h0
  · exact h1
  · exact h2
  · exact h3
  · exact h4
  · exact h5
  · exact h6
  · exact h7
  · omega
/-- What comes up in it. -/
def Gp (val : List Value) (xs : List Int) (y : Int) (n0 : Nat) (d : Bool) (i : Nat) (v : Value) (w : World) : Prop :=
  (i = 5 → d = false → ∃ g, v = .slice (some ⟨g, 0, none⟩) 1 1 ∧ Cs w g #[.int .i64 y]) ∧ (i = 6 → w.ownsRow (n0 + 4) 3 1 v (xs ++ [y]).length ((xs ++ [y]).map (Value.int .i64))) ∧ (i ≠ 5 → i ≠ 6 → v = val.getD i undef)
theorem Gp.step {val : List Value} {xs : List Int} {y : Int} {n0 : Nat} {d : Bool} {w w1 : World} (hb : Below w.heap.size w w1) : ∀ i v, Gp val xs y n0 d i v w → Gp val xs y n0 d i v w1 := fun i v h =>
  ⟨fun e hd => by
    obtain ⟨g, h1, h2⟩ := h.1 e hd
    exact ⟨g, h1, h2.step hb⟩, fun e => row_step (h.2.1 e) hb, h.2.2⟩
set_option maxRecDepth 100000 in
set_option maxHeartbeats 4000000 in
theorem merge_any (vs vo : Value) (sl ol : List Int) (w : World) (h1 : IntsAt w vs sl) (h2 : TgAt w vo ol) (b1 : ∀ z ∈ sl, 0 ≤ z ∧ z ≤ 2147483646) (b2 : ∀ z ∈ ol, 0 ≤ z ∧ z ≤ 2147483646) (l1 : sl.length ≤ 1000) (l2 : ol.length ≤ 1000) :
    Calls Try.prog 20 #[.agg #[vs, .func (.func 41) #[] #[]], .agg #[vo, .func (.func 41) #[] #[]]] w fun e w' => ∃ u, e = .returned (.agg #[u, .func (.func 41) #[] #[]]) ∧ w'.ownsRow w.heap.size 3 1 u (mg sl ol).length ((mg sl ol).map (Value.int .i64)) ∧ Below w.heap.size w w' := by
  have H1 := Lib.hid h1
  have H2 := Lib.hid h2
  have BB1 := Lib.hid b1
  have BB2 := Lib.hid b2
  obtain ⟨a, cap, rfl, -, -⟩ := h1
  obtain ⟨a', cap', rfl, -, -⟩ := h2.1
  clear h2 b1 b2
  obtain ⟨i0, hi, hz0, hz1, hz2⟩ := info_parts infoInt
  have heg : ∀ args w, (callFunc 41 args).run Try.prog w = .ok (.enter 41 args) w := fun _ _ => by kernel_rfl
  have HB0 := Lib.hid ((al3 (w := w) (o1 := .cells #[.slice a sl.length cap, .func (.func 41) #[] #[]] 55) (o2 := .cells #[.slice a' ol.length cap', .func (.func 41) #[] #[]] 55) (o3 := .cells #[.slice none 0 0, .nilFunc] 55)).alloc (by simp; omega) (.cells #[.slice none 0 0, .func (.func 41) #[] #[]] 55))
  have KA := (((Cs.new w w.heap.size #[.slice a sl.length cap, .func (.func 41) #[] #[]] 55 rfl).alloc (.cells #[.slice a' ol.length cap', .func (.func 41) #[] #[]] 55)).alloc (.cells #[.slice none 0 0, .nilFunc] 55)).alloc (.cells #[.slice none 0 0, .func (.func 41) #[] #[]] 55)
  have KB := ((Cs.new (w.alloc (.cells #[.slice a sl.length cap, .func (.func 41) #[] #[]] 55)) (w.heap.size + 1) #[.slice a' ol.length cap', .func (.func 41) #[] #[]] 55 (by simp)).alloc (.cells #[.slice none 0 0, .nilFunc] 55)).alloc (.cells #[.slice none 0 0, .func (.func 41) #[] #[]] 55)
  have KC := (Cs.new ((w.alloc (.cells #[.slice a sl.length cap, .func (.func 41) #[] #[]] 55)).alloc (.cells #[.slice a' ol.length cap', .func (.func 41) #[] #[]] 55)) (w.heap.size + 2) #[.slice none 0 0, .nilFunc] 55 (by simp)).alloc (.cells #[.slice none 0 0, .func (.func 41) #[] #[]] 55)
  have KD := Cs.new (((w.alloc (.cells #[.slice a sl.length cap, .func (.func 41) #[] #[]] 55)).alloc (.cells #[.slice a' ol.length cap', .func (.func 41) #[] #[]] 55)).alloc (.cells #[.slice none 0 0, .nilFunc] 55)) (w.heap.size + 3) #[.slice none 0 0, .func (.func 41) #[] #[]] 55 (by simp)
  have HM0 := Lib.hid (show MS w.heap.size (.slice a sl.length cap) (.slice none 0 0) [] ((((w.alloc (.cells #[.slice a sl.length cap, .func (.func 41) #[] #[]] 55)).alloc (.cells #[.slice a' ol.length cap', .func (.func 41) #[] #[]] 55)).alloc (.cells #[.slice none 0 0, .nilFunc] 55)).alloc (.cells #[.slice none 0 0, .func (.func 41) #[] #[]] 55)) from ⟨KA, KC, KD, by simp, World.ownsRow_nil _ _ _ _⟩)
  have r1 := (((Cs.new w w.heap.size #[.slice a sl.length cap, .func (.func 41) #[] #[]] 55 rfl).alloc (.cells #[.slice a' ol.length cap', .func (.func 41) #[] #[]] 55)).alloc (.cells #[.slice none 0 0, .nilFunc] 55)).c 1 rfl
  have r2 := KB.c 0 rfl
  have r3 := KA.c 0 rfl
  clear KA KB KC KD
  go_enter Try.func20, Try.ntmps20
  go_wp2_with fail
  go_step3
  go_wp2_with fail
  go_step3
  go_wp2_with fail
  obtain ⟨W0, hW0⟩ : ∃ W0, (((w.alloc (.cells #[.slice a sl.length cap, .func (.func 41) #[] #[]] 55)).alloc (.cells #[.slice a' ol.length cap', .func (.func 41) #[] #[]] 55)).alloc (.cells #[.slice none 0 0, .nilFunc] 55)).alloc (.cells #[.slice none 0 0, .func (.func 41) #[] #[]] 55) = W0 := ⟨_, rfl⟩
  rw [hW0] at HB0 HM0 ⊢
  clear hW0 r1 r2 r3
  go_loopg [6, 18] sl.length (fun g rv i wr => ∃ k : Nat, k + g = sl.length ∧ i = .int .i64 k ∧ ∃ (rest xs : List Int) (v : Value), Hid (TgAt w rv rest) ∧ Hid (∀ z ∈ rest, 0 ≤ z ∧ z ≤ 2147483646) ∧ Hid (MS w.heap.size (.slice a sl.length cap) v xs wr) ∧ Hid (xs ++ mg (sl.drop k) rest = mg sl ol) ∧ xs.length + rest.length ≤ k + ol.length ∧ Hid (Below w.heap.size w wr))
  case atStart => exact ⟨0, by omega, rfl, ol, [], _, H2, BB2, HM0, Lib.hid rfl, by simp, HB0⟩
  case round =>
    clear HM0 HB0
    obtain ⟨k, hk, rfl, rest, xs, v, HT, HR, HM, HE, hlen, HB⟩ := hrel
    have hn4 := HM.out.2.2.2.1
    rcases gk with _ | g
    · have HE2 := Lib.hid (show xs ++ rest = mg sl ol by rw [← HE.out, show k = sl.length by omega, List.drop_length, mg_nil])
      obtain ⟨va, vc, rfl⟩ := row_slice HM.out.2.2.2.2
      obtain ⟨ar, cr, rfl, -, -⟩ := HT.out.1
      obtain ⟨v5, w5, q5, q6, q7⟩ := run_app wr (w.heap.size + 4) xs.length (.slice va xs.length vc) (.slice ar rest.length cr) (xs.map (Value.int .i64)) rest 22 HM.out.2.2.2.2 (HT.out.1.step HB.out) (by omega) (by omega)
      have HB5 := Lib.hid ((Below.refl (w.heap.size + 4) wr).grown q7 (by omega) (fun j hj => row_own HM.out.2.2.2.2 j hj))
      obtain ⟨va5, vc5, rfl⟩ := row_slice q6
      have HO5 := Lib.hid (show w5.ownsRow (w.heap.size + 4) 3 1 (.slice va5 (xs.length + rest.length) vc5) (mg sl ol).length ((mg sl ol).map (Value.int .i64)) by rw [← HE2.out, List.map_append, List.length_append]; exact q6)
      have c3 := HM.out.2.2.1.c 0 rfl
      have z3 := HM.out.2.2.1.2.2
      have C3 := HM.out.2.2.1.stepB HB5.out (by omega)
      have C2 := HM.out.2.1.stepB HB5.out (by omega)
      have d0 := C3.c 0 rfl
      have d1 := C3.c 1 rfl
      have d2 := C3.f 0 (by simp)
      have d3 := C3.2.2
      have k0 := C2.c 0 rfl
      have k1 := C2.c 1 rfl
      have k2 := C2.f 0 (by simp)
      have k3 := C2.f 1 (by simp)
      have k4 := C2.2.2
      have HC2 := Lib.hid C2
      clear C2 C3 q6 q7
      have hkk : ¬ k < sl.length := by omega
      go_wp2_with (at_builtin; refine wpList_app_g _ _ 27 rfl (by simp [Region.wanted, yielded]) _ _ (.slice va5 (xs.length + rest.length) vc5) rfl rfl q5 ?_)
      obtain ⟨V5, hV5⟩ : ∃ V, Value.slice va5 (xs.length + rest.length) vc5 = V := ⟨_, rfl⟩
      rw [hV5] at HO5 ⊢
      have Q1 : Cs (((w5.setCell ⟨w.heap.size + 1 + 1 + 1, 0, none⟩ V5).setCell ⟨w.heap.size + 1 + 1, 0, none⟩ V5).setCell ⟨w.heap.size + 1 + 1, 1, none⟩ (.func (.func 41) #[] #[])) (w.heap.size + 1 + 1) #[V5, .func (.func 41) #[] #[]] := ((HC2.out.other (by omega) 0 V5).set 0 (by simp) V5 rfl).set 1 (by simp) _ rfl
      have Q2 : (((w5.setCell ⟨w.heap.size + 1 + 1 + 1, 0, none⟩ V5).setCell ⟨w.heap.size + 1 + 1, 0, none⟩ V5).setCell ⟨w.heap.size + 1 + 1, 1, none⟩ (.func (.func 41) #[] #[])).ownsRow (w.heap.size + 4) 3 1 V5 (mg sl ol).length ((mg sl ol).map (Value.int .i64)) := row_other (row_other (row_other HO5.out (by omega)) (by omega)) (by omega)
      have Q3 : Below w.heap.size w (((w5.setCell ⟨w.heap.size + 1 + 1 + 1, 0, none⟩ V5).setCell ⟨w.heap.size + 1 + 1, 0, none⟩ V5).setCell ⟨w.heap.size + 1 + 1, 1, none⟩ (.func (.func 41) #[] #[])) := (((HB.out.trans (HB5.out.mono (by omega))).setCell (by simp; omega) _).setCell (by simp; omega) _).setCell (by simp; omega) _
      obtain ⟨W9, hW9⟩ : ∃ W, (((w5.setCell ⟨w.heap.size + 1 + 1 + 1, 0, none⟩ V5).setCell ⟨w.heap.size + 1 + 1, 0, none⟩ V5).setCell ⟨w.heap.size + 1 + 1, 1, none⟩ (.func (.func 41) #[] #[])) = W := ⟨_, rfl⟩
      rw [hW9] at Q1 Q2 Q3 ⊢
      have u0 := Q1.c 0 rfl
      have u1 := Q1.c 1 rfl
      have u2 := Q1.2.2
      rw [Exit.noGoto_ret]
      exact bodyPost_ret (v := .agg #[V5, .func (.func 41) #[] #[]]) (by simp [results, Try.results20, go_sem, u0, u1, u2]) rfl ⟨_, rfl, row_base Q2 (by omega), Q3⟩
    · have hlt : k < sl.length := by omega
      obtain ⟨a2, cap2, hva, -, hcs⟩ := H1.out
      obtain ⟨rfl, rfl⟩ : a = a2 ∧ cap = cap2 := by simpa using hva
      obtain ⟨b, off, rfl, hcs2⟩ := hcs (by intro h; rw [h] at hlt; simp at hlt)
      have hx := keep1 HB.out (hcs2 k _ (getD_of hlt))
      have HX := Lib.hid (BB1.out (sl.getD k 0) (by simp [hlt]))
      have HD := Lib.hid (show sl.drop k = sl.getD k 0 :: sl.drop (k + 1) by rw [List.drop_eq_getElem_cons hlt]; simp [hlt])
      clear hcs hcs2 hva
      replace HE := Lib.hid (show xs ++ mg (sl.getD k 0 :: sl.drop (k + 1)) rest = mg sl ol by rw [← HD.out]; exact HE.out)
      clear HD
      generalize sl.getD k 0 = x at *
      obtain ⟨SR, hSR⟩ : ∃ SR, sl.drop (k + 1) = SR := ⟨_, rfl⟩
      rw [hSR] at HE
      replace hSR := Lib.hid hSR
      go_wp2_with fail
      clear hx
      go_loopg [6] rest.length (fun g rv wr => ∃ (rest xs : List Int) (v : Value), rest.length = g ∧ Hid (TgAt w rv rest) ∧ Hid (∀ z ∈ rest, 0 ≤ z ∧ z ≤ 2147483646) ∧ Hid (MS w.heap.size (.slice (some ⟨b, off, none⟩) sl.length cap) v xs wr) ∧ Hid (xs ++ mg (x :: SR) rest = mg sl ol) ∧ xs.length + rest.length ≤ k + ol.length ∧ Hid (Below w.heap.size w wr))
      case atStart => exact ⟨rest, xs, v, rfl, HT, HR, HM, HE, hlen, HB⟩
      case round =>
        clear HT HR HM HE HB hlen hn4
        obtain ⟨rest, xs, v, hg, HT, HR, HM, HE, hlen, HB⟩ := hrel
        have hn4 := HM.out.2.2.2.1
        obtain ⟨va, vc, rfl⟩ := row_slice HM.out.2.2.2.2
        have c3 := HM.out.2.2.1.c 0 rfl
        have f3 := HM.out.2.2.1.f 0 (by simp)
        have z3 := HM.out.2.2.1.2.2
        have z30 := HM.out.1.2.2
        rcases rest with _ | ⟨y, r⟩
        · obtain ⟨ar, cr, hrv, -, -⟩ := HT.out.1
          simp only [List.length_nil] at hrv hlen
          subst hrv
          go_wp2_with (at_builtin; refine wpList_append_own _ rfl _ _ 27 rfl (w.heap.size + 4) 3 i0 (.int .i64 0) 1 8 Try.underlying27 hi hz0 hz1 hz2 rfl (by decide) _ _ _ rfl (HM.out.2.2.2.2.alloc _) ⟨wr.heap.size, 0, none⟩ 1 1 [.int .i64 x] rfl rfl (cell_one_new _ _ _) (by simp [Value.oneCell']) (by unfold maxLen; omega) (by omega) (by simp; omega) ?_; intro v1 w1 ho1 hg1 _; obtain ⟨va1, vc1, rfl⟩ := row_slice ho1; have HB1 := Lib.hid (HM.out.below hg1); have hs1 := HB1.out.size; have C3 := HM.out.2.2.1.stepB HB1.out (by omega); have q0 := C3.c 0 rfl; have q1 := C3.f 0 (by simp); have q2 := C3.2.2; replace ho1 := Lib.hid ho1; clear hg1 C3)
          have HO1 := Lib.hid (row_snoc ho1.out)
          clear ho1
          have HM2 := Lib.hid (HM.out.put HB1.out HO1.out)
          have HB2 := Lib.hid ((HB.out.trans (HB1.out.mono (by omega))).setCell (by simp) (p := ⟨w.heap.size + 3, 0, none⟩) (.slice va1 (xs.length + 1) vc1))
          have HN := Lib.hid (show (xs ++ [x]) ++ mg SR [] = mg sl ol by rw [← HE.out, mg_cons_nil]; simp)
          clear HE
          go_wp2
          go_roundg g
          case rel => exact ⟨k + 1, by omega, by go_num, [], xs ++ [x], _, HT, HR, HM2, by rw [hSR.out]; exact HN, by simp; omega, HB2⟩
          case measure => omega
        · obtain ⟨b2, off2, c2, rfl, hy0, hc2⟩ := tg_cons HT.out
          have hy := keep1 HB.out hy0
          have YB := Lib.hid (HR.out y (by simp))
          have HRn := Lib.hid (show ∀ z ∈ r, 0 ≤ z ∧ z ≤ 2147483646 from fun z hz => HR.out z (by simp [hz]))
          have HY0 := Lib.hid hy0
          rcases hc2 with hcc | hcc
          · obtain ⟨rfl, rfl⟩ := hcc
            have HTn := Lib.hid (tg_none w b2 off2)
            simp only [List.length_nil, Nat.zero_add] at *
            have k0 := HM.out.1.c 1 rfl
            have hw : wrap64 (y - x) = y - x := by have := YB.out; have := HX.out; exact IntWalk.wrap64_in _ (by omega)
            have HW := Lib.hid hw
            clear hw hy0
            go_wp2_with fail
            go_quiet ((go_at_call 41; exact Calls.quiet_of_same (cmp_qn y x _ HW.out _ _)))
            obtain ⟨wq, hwq⟩ : ∃ wq, wr.drewN nq = wq := ⟨_, rfl⟩
            have bq : Below wr.heap.size wr wq := by rw [← hwq]; exact below_drewN' _ _ _
            rw [hwq]
            clear hwq c3 f3 z3 z30 k0 hy
            replace HM := Lib.hid (HM.out.step bq)
            replace HB := Lib.hid (HB.out.trans (bq.mono HB.out.size))
            replace hn4 := HM.out.2.2.2.1
            clear bq
            have c3 := HM.out.2.2.1.c 0 rfl
            have f3 := HM.out.2.2.1.f 0 (by simp)
            have z3 := HM.out.2.2.1.2.2
            obtain ⟨c, hc⟩ : ∃ c, y - x = c := ⟨_, rfl⟩
            simp only [List.length_cons, List.length_nil, Nat.zero_add] at hg hlen
            obtain rfl : gk = 1 := hg.symm
            rw [hc]
            have HC := Lib.hid hc
            clear HW
            by_cases o1 : 0 < c
            · have HN := Lib.hid (show (xs ++ [x]) ++ mg SR (y :: []) = mg sl ol by rw [← HE.out, mg_gt SR [] (by have := HC.out; omega)]; simp)
              have e1 : decide (0 < c) = true := decide_eq_true o1
              have e2 : decide (c > 0) = true := decide_eq_true o1
              clear HE hc
              go_wp2_with (at_builtin; refine wpList_append_own _ rfl _ _ 27 rfl (w.heap.size + 4) 3 i0 (.int .i64 0) 1 8 Try.underlying27 hi hz0 hz1 hz2 rfl (by decide) _ _ _ rfl (HM.out.2.2.2.2.alloc _) ⟨wq.heap.size, 0, none⟩ 1 1 [.int .i64 x] rfl rfl (cell_one_new _ _ _) (by simp [Value.oneCell']) (by unfold maxLen; omega) (by omega) (by simp; omega) ?_; intro v1 w1 ho1 hg1 _; obtain ⟨va1, vc1, rfl⟩ := row_slice ho1; have HB1 := Lib.hid (HM.out.below hg1); have hs1 := HB1.out.size; have C3 := HM.out.2.2.1.stepB HB1.out (by omega); have q0 := C3.c 0 rfl; have q1 := C3.f 0 (by simp); have q2 := C3.2.2; replace ho1 := Lib.hid ho1; clear hg1 C3)
              have HO1 := Lib.hid (row_snoc ho1.out)
              clear ho1
              have HM2 := Lib.hid (HM.out.put HB1.out HO1.out)
              have HB2 := Lib.hid ((HB.out.trans (HB1.out.mono (by omega))).setCell (by simp) (p := ⟨w.heap.size + 3, 0, none⟩) (.slice va1 (xs.length + 1) vc1))
              go_wp2
              go_roundg g
              case rel => exact ⟨k + 1, by omega, by go_num, y :: [], xs ++ [x], _, HT, HR, HM2, by rw [hSR.out]; exact HN, by simp; omega, HB2⟩
              case measure => omega
            · have e1 : decide (0 < c) = false := decide_eq_false o1
              have e2 : decide (c > 0) = false := decide_eq_false o1
              by_cases o2 : c < 0
              · have HN := Lib.hid (show (xs ++ [y]) ++ mg (x :: SR) [] = mg sl ol by rw [← HE.out, mg_lt SR [] (by have := HC.out; omega)]; simp)
                have e3 : decide (c < 0) = true := decide_eq_true o2
                clear HE hc
                go_wp2_with fail
                obtain ⟨lit, hlit⟩ : ∃ lit : (Nat → Value) → Act, lit = fun vs => { tmps := List.toArray (Value.agg #[Value.slice (some { block := b, off := off }) sl.length cap, Value.func (Fn.func 41) #[] #[]] :: Value.agg #[Value.slice a' ol.length cap', Value.func (Fn.func 41) #[] #[]] :: Value.pointer (some { block := w.heap.size, off := 0 }) :: Value.pointer (some { block := w.heap.size + 1, off := 0 }) :: Value.pointer (some { block := w.heap.size + 1 + 1, off := 0 }) :: Value.pointer (some { block := w.heap.size + 1 + 1 + 1, off := 0 }) :: Value.slice (some { block := b2, off := off2 }) 1 1 :: undef :: Value.int IntKind.i64 x :: Value.int IntKind.i64 c :: Value.pointer (some { block := w.heap.size, off := 1 }) :: Value.func (Fn.func 41) #[] #[] :: Value.agg #[Value.slice none 0 0, Value.func (Fn.func 41) #[] #[]] :: Value.pointer (some { block := w.heap.size + 1, off := 0 }) :: Value.slice a' ol.length cap' :: Value.pointer (some { block := w.heap.size, off := 0 }) :: Value.slice (some { block := b, off := off }) sl.length cap :: Value.int IntKind.i64 (sl.length : Int) :: Value.int IntKind.i64 (k : Int) :: Value.bool true :: Value.pointer (some { block := b, off := off + k }) :: Value.int IntKind.i64 x :: Value.slice (some { block := b2, off := off2 }) 1 1 :: Value.int IntKind.i64 1 :: Value.bool true :: Value.pointer (some { block := w.heap.size, off := 1 }) :: Value.func (Fn.func 41) #[] #[] :: Value.slice (some { block := b2, off := off2 }) 1 1 :: Value.pointer (some { block := b2, off := off2 }) :: Value.int IntKind.i64 y :: Value.int IntKind.i64 x :: Value.int IntKind.i64 c :: Value.bool false :: Value.int IntKind.i64 c :: Value.bool false :: u35 :: u36 :: u37 :: u38 :: u39 :: u40 :: Value.bool true :: Value.int IntKind.i64 c :: Value.bool true :: vs 0 :: vs 1 :: vs 2 :: vs 3 :: vs 4 :: vs 5 :: vs 6 :: vs 7 :: u52 :: u53 :: u54 :: u55 :: u56 :: u57 :: u58 :: u59 :: u60 :: undef :: undef :: undef :: undef :: undef :: undef :: []), defers := [] } := ⟨_, rfl⟩
                have HLIT := Lib.hid hlit
                clear hlit
                obtain ⟨val, hval⟩ : ∃ val : List Value, val = [.pointer (some ⟨w.heap.size + 1 + 1 + 1, 0, none⟩), .slice va xs.length vc, Value.slice (some { block := b2, off := off2 }) 1 1, .pointer (some ⟨b2, off2, none⟩), .int .i64 y, undef, undef, .pointer (some ⟨w.heap.size + 1 + 1 + 1, 0, none⟩)] := ⟨_, rfl⟩
                have E0 := Lib.hid (show val.getD 0 undef = .pointer (some ⟨w.heap.size + 1 + 1 + 1, 0, none⟩) by rw [hval]; rfl)
                have E1 := Lib.hid (show val.getD 1 undef = .slice va xs.length vc by rw [hval]; rfl)
                have E2 := Lib.hid (show val.getD 2 undef = Value.slice (some { block := b2, off := off2 }) 1 1 by rw [hval]; rfl)
                have E3 := Lib.hid (show val.getD 3 undef = .pointer (some ⟨b2, off2, none⟩) by rw [hval]; rfl)
                have E4 := Lib.hid (show val.getD 4 undef = .int .i64 y by rw [hval]; rfl)
                have E7 := Lib.hid (show val.getD 7 undef = .pointer (some ⟨w.heap.size + 1 + 1 + 1, 0, none⟩) by rw [hval]; rfl)
                clear hval
                have HBW := Lib.hid (fun (wv : World) (h : Below (w.heap.size + 4) wq wv) => HB.out.trans (h.mono (show w.heap.size ≤ w.heap.size + 4 by omega)))
                refine region_inv (NP lit (Gp val xs y w.heap.size) (fun d wv => (d = false → Below wq.heap.size wq wv) ∧ Below (w.heap.size + 4) wq wv) (fun wv => (∃ v', MS w.heap.size (.slice (some ⟨b, off, none⟩) sl.length cap) v' (xs ++ [y]) wv) ∧ Below w.heap.size w wv)) (by kernel_rfl) (by decide +kernel) ?_ ?_ ?_
                · exact ⟨fun i => ([u44, u45, u46, u47, u48, u49, u50, u51, undef] : List Value).getD i undef, (by rw [HLIT.out]; rfl), fun h => (by cases h), fun _ => ⟨⟨fun _ => below_drew _ _, below_drew _ _⟩, fun i h => (by cases h)⟩⟩
                · refine ⟨?_, ?_, ?_, ?_, ?_, ?_, ?_, ?_, ?_, trivial⟩
                  · intro bf ac wv hfb haf hJ K' hK
                    obtain ⟨vs, rfl, j8, jn⟩ := hJ
                    replace hK := Lib.hid hK
                    have h8 : bf 8 = false := Bool.eq_false_iff.2 fun h => absurd (((j8 h).1 0 (by omega)).symm.trans hfb) (by simp)
                    obtain ⟨hM, j4⟩ := jn h8
                    replace hM := Lib.hid hM
                    replace j4 := Lib.hid j4
                    clear haf hfb jn j8
                    rw [HLIT.out]
                    go_simp
                    exact hK.out _ _ (NP.next (wv := wv) (vs := vs) 0 (by omega) (by omega) (x := .pointer (some ⟨w.heap.size + 1 + 1 + 1, 0, none⟩)) (by rw [HLIT.out]; rfl) h8 hM.out j4.out (fun _ _ h => h) ⟨fun h => absurd h (by decide), fun h => absurd h (by decide), fun _ _ => E0.out.symm⟩)
                  · intro bf ac wv hfb haf hJ K' hK
                    obtain ⟨vs, rfl, j8, jn⟩ := hJ
                    replace hK := Lib.hid hK
                    have h8 : bf 8 = false := Bool.eq_false_iff.2 fun h => absurd (((j8 h).1 1 (by omega)).symm.trans hfb) (by simp)
                    obtain ⟨hM, j4⟩ := jn h8
                    simp [Region.binds] at haf
                    have e0 : vs 0 = _ := ((j4 0 (by simp [haf])).2.2 (by decide) (by decide)).trans E0.out
                    have C3 := HM.out.2.2.1.stepB hM.2 (by omega)
                    have s0 := C3.c 0 rfl
                    have s2 := C3.2.2
                    clear C3
                    replace hM := Lib.hid hM
                    replace j4 := Lib.hid j4
                    clear haf hfb jn j8
                    rw [HLIT.out]
                    go_simp
                    exact hK.out _ _ (NP.next (wv := wv) (vs := vs) 1 (by omega) (by omega) (x := .slice va xs.length vc) (by rw [HLIT.out]; simp only [upv, e0, Nat.reduceBEq, cond_true, cond_false]) h8 hM.out j4.out (fun _ _ h => h) ⟨fun h => absurd h (by decide), fun h => absurd h (by decide), fun _ _ => E1.out.symm⟩)
                  · intro bf ac wv hfb haf hJ K' hK
                    obtain ⟨vs, rfl, j8, jn⟩ := hJ
                    replace hK := Lib.hid hK
                    have h8 : bf 8 = false := Bool.eq_false_iff.2 fun h => absurd (((j8 h).1 2 (by omega)).symm.trans hfb) (by simp)
                    obtain ⟨hM, j4⟩ := jn h8
                    replace hM := Lib.hid hM
                    replace j4 := Lib.hid j4
                    clear haf hfb jn j8
                    rw [HLIT.out]
                    go_simp
                    exact hK.out _ _ (NP.next (wv := wv) (vs := vs) 2 (by omega) (by omega) (x := Value.slice (some { block := b2, off := off2 }) 1 1) (by rw [HLIT.out]; rfl) h8 hM.out j4.out (fun _ _ h => h) ⟨fun h => absurd h (by decide), fun h => absurd h (by decide), fun _ _ => E2.out.symm⟩)
                  · intro bf ac wv hfb haf hJ K' hK
                    obtain ⟨vs, rfl, j8, jn⟩ := hJ
                    replace hK := Lib.hid hK
                    have h8 : bf 8 = false := Bool.eq_false_iff.2 fun h => absurd (((j8 h).1 3 (by omega)).symm.trans hfb) (by simp)
                    obtain ⟨hM, j4⟩ := jn h8
                    simp [Region.binds] at haf
                    have e2 : vs 2 = _ := ((j4 2 (by simp [haf])).2.2 (by decide) (by decide)).trans E2.out
                    replace hM := Lib.hid hM
                    replace j4 := Lib.hid j4
                    clear haf hfb jn j8
                    rw [HLIT.out]
                    go_simp
                    exact hK.out _ _ (NP.next (wv := wv) (vs := vs) 3 (by omega) (by omega) (x := .pointer (some ⟨b2, off2, none⟩)) (by rw [HLIT.out]; simp only [upv, e2, Nat.reduceBEq, cond_true, cond_false]) h8 hM.out j4.out (fun _ _ h => h) ⟨fun h => absurd h (by decide), fun h => absurd h (by decide), fun _ _ => E3.out.symm⟩)
                  · intro bf ac wv hfb haf hJ K' hK
                    obtain ⟨vs, rfl, j8, jn⟩ := hJ
                    replace hK := Lib.hid hK
                    have h8 : bf 8 = false := Bool.eq_false_iff.2 fun h => absurd (((j8 h).1 4 (by omega)).symm.trans hfb) (by simp)
                    obtain ⟨hM, j4⟩ := jn h8
                    simp [Region.binds] at haf
                    have e3 : vs 3 = _ := ((j4 3 (by simp [haf])).2.2 (by decide) (by decide)).trans E3.out
                    have s0 := keep1 (HBW.out _ hM.2) HY0.out
                    have s2 := World.block_lt_of_cell? _ _ s0
                    have s2 : b2 < wv.heap.size := s2
                    replace hM := Lib.hid hM
                    replace j4 := Lib.hid j4
                    clear haf hfb jn j8
                    rw [HLIT.out]
                    go_simp
                    exact hK.out _ _ (NP.next (wv := wv) (vs := vs) 4 (by omega) (by omega) (x := .int .i64 y) (by rw [HLIT.out]; simp only [upv, e3, Nat.reduceBEq, cond_true, cond_false]) h8 hM.out j4.out (fun _ _ h => h) ⟨fun h => absurd h (by decide), fun h => absurd h (by decide), fun _ _ => E4.out.symm⟩)
                  · intro bf ac wv hfb haf hJ K' hK
                    obtain ⟨vs, rfl, j8, jn⟩ := hJ
                    replace hK := Lib.hid hK
                    have h8 : bf 8 = false := Bool.eq_false_iff.2 fun h => absurd (((j8 h).1 5 (by omega)).symm.trans hfb) (by simp)
                    obtain ⟨hM, j4⟩ := jn h8
                    simp [Region.binds] at haf
                    have e4 : vs 4 = _ := ((j4 4 (by simp [haf])).2.2 (by decide) (by decide)).trans E4.out
                    replace hM := Lib.hid hM
                    replace j4 := Lib.hid j4
                    clear haf hfb jn j8
                    rw [HLIT.out]
                    go_simp
                    exact hK.out _ _ (NP.next (wv := wv) (vs := vs) 5 (by omega) (by omega) (x := .slice (some ⟨wv.heap.size, 0, none⟩) 1 1) (by rw [HLIT.out]; simp only [upv, e4, Nat.reduceBEq, cond_true, cond_false]) h8 ⟨fun h => keep2 (al _ _) (hM.out.1 h), hM.out.2.alloc (by have := hM.out.2.size; omega) _⟩ j4.out (Gp.step (al _ _)) ⟨fun _ _ => ⟨_, rfl, Cs.new wv wv.heap.size #[.int .i64 y] 3 rfl⟩, fun h => absurd h (by decide), fun h => absurd rfl h⟩)
                  · intro bf ac wv hfb haf hJ K' hK
                    obtain ⟨vs, rfl, j8, jn⟩ := hJ
                    replace hK := Lib.hid hK
                    have h8 : bf 8 = false := Bool.eq_false_iff.2 fun h => absurd (((j8 h).1 6 (by omega)).symm.trans hfb) (by simp)
                    obtain ⟨hM, j4⟩ := jn h8
                    simp [Region.binds] at haf
                    have e1 : vs 1 = _ := ((j4 1 (by simp [haf])).2.2 (by decide) (by decide)).trans E1.out
                    rw [hfb] at j4 hM
                    obtain ⟨g, e5, hg⟩ := (j4 5 (by simp [haf])).1 rfl rfl
                    have hM1 := Lib.hid (hM.1 rfl)
                    have hM2 := Lib.hid hM.2
                    clear hM haf
                    have hR0 := row_step HM.out.2.2.2.2 hM1.out
                    have nx : ∀ j u, ([.int .i64 y] : List Value)[j]? = some u → wv.cell? ((⟨g, 0, none⟩ : Addr).add j) = some u := fun j u hu => by
                      rw [Go.WideShapes.add_plain, Nat.zero_add]
                      have hj : j < 1 := by simpa using (List.getElem?_eq_some_iff.1 hu).1
                      exact hg.c j (by simpa using hu)
                    rw [HLIT.out]
                    refine step_append_lies _ rfl _ _ 27 rfl (w.heap.size + 4) 3 i0 _ 1 8 Try.underlying27 hi hz0 hz1 hz2 rfl (by decide) _ _ _ e1 hR0 ⟨g, 0, none⟩ 1 1 [.int .i64 y] e5 rfl nx (by simp [Value.oneCell']) (by omega) (by unfold maxLen; omega) (by omega) (by have := hM2.out.size; omega) _ rfl ?_
                    intro g2 cap2 w' hown hgrow _ _
                    exact hK.out _ _ (NP.app (vs := vs) (x := .slice (some ⟨g2, 0, none⟩) (xs.length + 1) cap2) (by rw [HLIT.out]; rfl) h8 ⟨fun h => (by cases h), hM2.out.grown hgrow (by have := hM2.out.size; omega) (fun k e => row_own hR0 k e)⟩ (fun j hj hb => ⟨fun _ h => (by cases h), fun h => absurd h hj, (j4 j hb).2.2⟩) ⟨fun h => absurd h (by decide), fun _ => row_snoc hown, fun _ h => absurd rfl h⟩)
                  · intro bf ac wv hfb haf hJ K' hK
                    obtain ⟨vs, rfl, j8, jn⟩ := hJ
                    replace hK := Lib.hid hK
                    have h8 : bf 8 = false := Bool.eq_false_iff.2 fun h => absurd (((j8 h).1 7 (by omega)).symm.trans hfb) (by simp)
                    obtain ⟨hM, j4⟩ := jn h8
                    replace hM := Lib.hid hM
                    replace j4 := Lib.hid j4
                    clear haf hfb jn j8
                    rw [HLIT.out]
                    go_simp
                    exact hK.out _ _ (NP.next (wv := wv) (vs := vs) 7 (by omega) (by omega) (x := .pointer (some ⟨w.heap.size + 1 + 1 + 1, 0, none⟩)) (by rw [HLIT.out]; rfl) h8 hM.out j4.out (fun _ _ h => h) ⟨fun h => absurd h (by decide), fun h => absurd h (by decide), fun _ _ => E7.out.symm⟩)
                  · intro bf ac wv hfb haf hJ K' hK
                    obtain ⟨vs, rfl, -, jn⟩ := hJ
                    replace hK := Lib.hid hK
                    obtain ⟨hM, j4⟩ := jn hfb
                    simp [Region.binds] at haf
                    have HA : ∀ i, i < 8 → bf i = true := all8 (by simp [haf]) (by simp [haf]) (by simp [haf]) (by simp [haf]) (by simp [haf]) (by simp [haf]) (by simp [haf]) (by simp [haf])
                    replace HA := Lib.hid HA
                    have e6 := (j4 6 (by simp [haf])).2.1 rfl
                    have e7 : vs 7 = _ := ((j4 7 (by simp [haf])).2.2 (by decide) (by decide)).trans E7.out
                    clear haf hfb
                    have R6 := Lib.hid e6
                    obtain ⟨a7, c7, hx7⟩ := row_slice e6
                    simp only [List.length_append, List.length_cons, List.length_nil, Nat.zero_add] at hx7
                    rw [hx7] at R6
                    clear e6 j4 jn
                    have C3 := HM.out.2.2.1.stepB hM.2 (by omega)
                    have s0 := C3.c 0 rfl
                    have s1 := C3.f 0 (by simp)
                    have s2 := C3.2.2
                    clear C3
                    replace hM := Lib.hid hM
                    rw [HLIT.out]
                    go_simp
                    exact hK.out _ _ (NP.last (vs := vs) (by rw [HLIT.out]; simp only [hx7, e7]) HA.out ⟨⟨_, HM.out.put hM.out.2 R6.out⟩, (HBW.out _ hM.out.2).setCell (by simp; omega) _⟩)
                · intro bf ac wv hall hJ
                  obtain ⟨vs, rfl, hF, -⟩ := hJ
                  obtain ⟨-, ⟨v', hF1⟩, hF2⟩ := hF (hall 8 (by decide))
                  clear hall
                  have HM9 := Lib.hid hF1
                  have HB9 := Lib.hid hF2
                  clear hF1 hF2 hF
                  rw [HLIT.out]
                  dsimp only
                  go_wp2
                  go_roundg 0
                  case rel => exact ⟨[], xs ++ [y], _, rfl, HTn, HRn, HM9, HN, (by simp; omega), HB9⟩
                  case measure => omega
              · have HN := Lib.hid (show xs ++ mg (x :: SR) [] = mg sl ol by rw [← HE.out, mg_eq SR [] (by have := HC.out; omega)])
                have e3 : decide (c < 0) = false := decide_eq_false o2
                clear HE hc
                go_wp2
                go_roundg 0
                case rel => exact ⟨[], xs, _, rfl, HTn, HRn, HM, HN, (by simp only [List.length_nil]; omega), HB⟩
                case measure => omega
          · obtain ⟨cc9, rfl, htn⟩ := hcc
            have HTn := Lib.hid htn
            clear htn
            have k0 := HM.out.1.c 1 rfl
            have hw : wrap64 (y - x) = y - x := by have := YB.out; have := HX.out; exact IntWalk.wrap64_in _ (by omega)
            have HW := Lib.hid hw
            clear hw hy0
            go_wp2_with fail
            go_quiet ((go_at_call 41; exact Calls.quiet_of_same (cmp_qn y x _ HW.out _ _)))
            obtain ⟨wq, hwq⟩ : ∃ wq, wr.drewN nq = wq := ⟨_, rfl⟩
            have bq : Below wr.heap.size wr wq := by rw [← hwq]; exact below_drewN' _ _ _
            rw [hwq]
            clear hwq c3 f3 z3 z30 k0 hy
            replace HM := Lib.hid (HM.out.step bq)
            replace HB := Lib.hid (HB.out.trans (bq.mono HB.out.size))
            replace hn4 := HM.out.2.2.2.1
            clear bq
            have c3 := HM.out.2.2.1.c 0 rfl
            have f3 := HM.out.2.2.1.f 0 (by simp)
            have z3 := HM.out.2.2.1.2.2
            obtain ⟨c, hc⟩ : ∃ c, y - x = c := ⟨_, rfl⟩
            simp only [List.length_cons] at hg hlen
            obtain rfl : gk = r.length + 1 := hg.symm
            rw [hc]
            have HC := Lib.hid hc
            clear HW
            by_cases o1 : 0 < c
            · have HN := Lib.hid (show (xs ++ [x]) ++ mg SR (y :: r) = mg sl ol by rw [← HE.out, mg_gt SR r (by have := HC.out; omega)]; simp)
              have e1 : decide (0 < c) = true := decide_eq_true o1
              have e2 : decide (c > 0) = true := decide_eq_true o1
              clear HE hc
              go_wp2_with (at_builtin; refine wpList_append_own _ rfl _ _ 27 rfl (w.heap.size + 4) 3 i0 (.int .i64 0) 1 8 Try.underlying27 hi hz0 hz1 hz2 rfl (by decide) _ _ _ rfl (HM.out.2.2.2.2.alloc _) ⟨wq.heap.size, 0, none⟩ 1 1 [.int .i64 x] rfl rfl (cell_one_new _ _ _) (by simp [Value.oneCell']) (by unfold maxLen; omega) (by omega) (by simp; omega) ?_; intro v1 w1 ho1 hg1 _; obtain ⟨va1, vc1, rfl⟩ := row_slice ho1; have HB1 := Lib.hid (HM.out.below hg1); have hs1 := HB1.out.size; have C3 := HM.out.2.2.1.stepB HB1.out (by omega); have q0 := C3.c 0 rfl; have q1 := C3.f 0 (by simp); have q2 := C3.2.2; replace ho1 := Lib.hid ho1; clear hg1 C3)
              have HO1 := Lib.hid (row_snoc ho1.out)
              clear ho1
              have HM2 := Lib.hid (HM.out.put HB1.out HO1.out)
              have HB2 := Lib.hid ((HB.out.trans (HB1.out.mono (by omega))).setCell (by simp) (p := ⟨w.heap.size + 3, 0, none⟩) (.slice va1 (xs.length + 1) vc1))
              go_wp2
              go_roundg g
              case rel => exact ⟨k + 1, by omega, by go_num, y :: r, xs ++ [x], _, HT, HR, HM2, by rw [hSR.out]; exact HN, by simp; omega, HB2⟩
              case measure => omega
            · have e1 : decide (0 < c) = false := decide_eq_false o1
              have e2 : decide (c > 0) = false := decide_eq_false o1
              by_cases o2 : c < 0
              · have HN := Lib.hid (show (xs ++ [y]) ++ mg (x :: SR) r = mg sl ol by rw [← HE.out, mg_lt SR r (by have := HC.out; omega)]; simp)
                have e3 : decide (c < 0) = true := decide_eq_true o2
                clear HE hc
                go_wp2_with fail
                obtain ⟨lit, hlit⟩ : ∃ lit : (Nat → Value) → Act, lit = fun vs => { tmps := List.toArray (Value.agg #[Value.slice (some { block := b, off := off }) sl.length cap, Value.func (Fn.func 41) #[] #[]] :: Value.agg #[Value.slice a' ol.length cap', Value.func (Fn.func 41) #[] #[]] :: Value.pointer (some { block := w.heap.size, off := 0 }) :: Value.pointer (some { block := w.heap.size + 1, off := 0 }) :: Value.pointer (some { block := w.heap.size + 1 + 1, off := 0 }) :: Value.pointer (some { block := w.heap.size + 1 + 1 + 1, off := 0 }) :: Value.slice (some { block := b2, off := off2 }) (r.length + 1) (cc9 + 2) :: undef :: Value.int IntKind.i64 x :: Value.int IntKind.i64 c :: Value.pointer (some { block := w.heap.size, off := 1 }) :: Value.func (Fn.func 41) #[] #[] :: Value.agg #[Value.slice none 0 0, Value.func (Fn.func 41) #[] #[]] :: Value.pointer (some { block := w.heap.size + 1, off := 0 }) :: Value.slice a' ol.length cap' :: Value.pointer (some { block := w.heap.size, off := 0 }) :: Value.slice (some { block := b, off := off }) sl.length cap :: Value.int IntKind.i64 (sl.length : Int) :: Value.int IntKind.i64 (k : Int) :: Value.bool true :: Value.pointer (some { block := b, off := off + k }) :: Value.int IntKind.i64 x :: Value.slice (some { block := b2, off := off2 }) (r.length + 1) (cc9 + 2) :: Value.int IntKind.i64 ((r.length : Int) + 1) :: Value.bool true :: Value.pointer (some { block := w.heap.size, off := 1 }) :: Value.func (Fn.func 41) #[] #[] :: Value.slice (some { block := b2, off := off2 }) (r.length + 1) (cc9 + 2) :: Value.pointer (some { block := b2, off := off2 }) :: Value.int IntKind.i64 y :: Value.int IntKind.i64 x :: Value.int IntKind.i64 c :: Value.bool false :: Value.int IntKind.i64 c :: Value.bool false :: u35 :: u36 :: u37 :: u38 :: u39 :: u40 :: Value.bool true :: Value.int IntKind.i64 c :: Value.bool true :: vs 0 :: vs 1 :: vs 2 :: vs 3 :: vs 4 :: vs 5 :: vs 6 :: vs 7 :: u52 :: u53 :: u54 :: u55 :: u56 :: u57 :: u58 :: u59 :: u60 :: undef :: undef :: undef :: undef :: undef :: undef :: []), defers := [] } := ⟨_, rfl⟩
                have HLIT := Lib.hid hlit
                clear hlit
                obtain ⟨val, hval⟩ : ∃ val : List Value, val = [.pointer (some ⟨w.heap.size + 1 + 1 + 1, 0, none⟩), .slice va xs.length vc, Value.slice (some { block := b2, off := off2 }) (r.length + 1) (cc9 + 2), .pointer (some ⟨b2, off2, none⟩), .int .i64 y, undef, undef, .pointer (some ⟨w.heap.size + 1 + 1 + 1, 0, none⟩)] := ⟨_, rfl⟩
                have E0 := Lib.hid (show val.getD 0 undef = .pointer (some ⟨w.heap.size + 1 + 1 + 1, 0, none⟩) by rw [hval]; rfl)
                have E1 := Lib.hid (show val.getD 1 undef = .slice va xs.length vc by rw [hval]; rfl)
                have E2 := Lib.hid (show val.getD 2 undef = Value.slice (some { block := b2, off := off2 }) (r.length + 1) (cc9 + 2) by rw [hval]; rfl)
                have E3 := Lib.hid (show val.getD 3 undef = .pointer (some ⟨b2, off2, none⟩) by rw [hval]; rfl)
                have E4 := Lib.hid (show val.getD 4 undef = .int .i64 y by rw [hval]; rfl)
                have E7 := Lib.hid (show val.getD 7 undef = .pointer (some ⟨w.heap.size + 1 + 1 + 1, 0, none⟩) by rw [hval]; rfl)
                clear hval
                have HBW := Lib.hid (fun (wv : World) (h : Below (w.heap.size + 4) wq wv) => HB.out.trans (h.mono (show w.heap.size ≤ w.heap.size + 4 by omega)))
                refine region_inv (NP lit (Gp val xs y w.heap.size) (fun d wv => (d = false → Below wq.heap.size wq wv) ∧ Below (w.heap.size + 4) wq wv) (fun wv => (∃ v', MS w.heap.size (.slice (some ⟨b, off, none⟩) sl.length cap) v' (xs ++ [y]) wv) ∧ Below w.heap.size w wv)) (by kernel_rfl) (by decide +kernel) ?_ ?_ ?_
                · exact ⟨fun i => ([u44, u45, u46, u47, u48, u49, u50, u51, undef] : List Value).getD i undef, (by rw [HLIT.out]; rfl), fun h => (by cases h), fun _ => ⟨⟨fun _ => below_drew _ _, below_drew _ _⟩, fun i h => (by cases h)⟩⟩
                · refine ⟨?_, ?_, ?_, ?_, ?_, ?_, ?_, ?_, ?_, trivial⟩
                  · intro bf ac wv hfb haf hJ K' hK
                    obtain ⟨vs, rfl, j8, jn⟩ := hJ
                    replace hK := Lib.hid hK
                    have h8 : bf 8 = false := Bool.eq_false_iff.2 fun h => absurd (((j8 h).1 0 (by omega)).symm.trans hfb) (by simp)
                    obtain ⟨hM, j4⟩ := jn h8
                    replace hM := Lib.hid hM
                    replace j4 := Lib.hid j4
                    clear haf hfb jn j8
                    rw [HLIT.out]
                    go_simp
                    exact hK.out _ _ (NP.next (wv := wv) (vs := vs) 0 (by omega) (by omega) (x := .pointer (some ⟨w.heap.size + 1 + 1 + 1, 0, none⟩)) (by rw [HLIT.out]; rfl) h8 hM.out j4.out (fun _ _ h => h) ⟨fun h => absurd h (by decide), fun h => absurd h (by decide), fun _ _ => E0.out.symm⟩)
                  · intro bf ac wv hfb haf hJ K' hK
                    obtain ⟨vs, rfl, j8, jn⟩ := hJ
                    replace hK := Lib.hid hK
                    have h8 : bf 8 = false := Bool.eq_false_iff.2 fun h => absurd (((j8 h).1 1 (by omega)).symm.trans hfb) (by simp)
                    obtain ⟨hM, j4⟩ := jn h8
                    simp [Region.binds] at haf
                    have e0 : vs 0 = _ := ((j4 0 (by simp [haf])).2.2 (by decide) (by decide)).trans E0.out
                    have C3 := HM.out.2.2.1.stepB hM.2 (by omega)
                    have s0 := C3.c 0 rfl
                    have s2 := C3.2.2
                    clear C3
                    replace hM := Lib.hid hM
                    replace j4 := Lib.hid j4
                    clear haf hfb jn j8
                    rw [HLIT.out]
                    go_simp
                    exact hK.out _ _ (NP.next (wv := wv) (vs := vs) 1 (by omega) (by omega) (x := .slice va xs.length vc) (by rw [HLIT.out]; simp only [upv, e0, Nat.reduceBEq, cond_true, cond_false]) h8 hM.out j4.out (fun _ _ h => h) ⟨fun h => absurd h (by decide), fun h => absurd h (by decide), fun _ _ => E1.out.symm⟩)
                  · intro bf ac wv hfb haf hJ K' hK
                    obtain ⟨vs, rfl, j8, jn⟩ := hJ
                    replace hK := Lib.hid hK
                    have h8 : bf 8 = false := Bool.eq_false_iff.2 fun h => absurd (((j8 h).1 2 (by omega)).symm.trans hfb) (by simp)
                    obtain ⟨hM, j4⟩ := jn h8
                    replace hM := Lib.hid hM
                    replace j4 := Lib.hid j4
                    clear haf hfb jn j8
                    rw [HLIT.out]
                    go_simp
                    exact hK.out _ _ (NP.next (wv := wv) (vs := vs) 2 (by omega) (by omega) (x := Value.slice (some { block := b2, off := off2 }) (r.length + 1) (cc9 + 2)) (by rw [HLIT.out]; rfl) h8 hM.out j4.out (fun _ _ h => h) ⟨fun h => absurd h (by decide), fun h => absurd h (by decide), fun _ _ => E2.out.symm⟩)
                  · intro bf ac wv hfb haf hJ K' hK
                    obtain ⟨vs, rfl, j8, jn⟩ := hJ
                    replace hK := Lib.hid hK
                    have h8 : bf 8 = false := Bool.eq_false_iff.2 fun h => absurd (((j8 h).1 3 (by omega)).symm.trans hfb) (by simp)
                    obtain ⟨hM, j4⟩ := jn h8
                    simp [Region.binds] at haf
                    have e2 : vs 2 = _ := ((j4 2 (by simp [haf])).2.2 (by decide) (by decide)).trans E2.out
                    have s0 : (0 : Int) < (r.length : Int) + 1 := by omega
                    replace hM := Lib.hid hM
                    replace j4 := Lib.hid j4
                    clear haf hfb jn j8
                    rw [HLIT.out]
                    go_simp
                    exact hK.out _ _ (NP.next (wv := wv) (vs := vs) 3 (by omega) (by omega) (x := .pointer (some ⟨b2, off2, none⟩)) (by rw [HLIT.out]; simp only [upv, e2, Nat.reduceBEq, cond_true, cond_false]) h8 hM.out j4.out (fun _ _ h => h) ⟨fun h => absurd h (by decide), fun h => absurd h (by decide), fun _ _ => E3.out.symm⟩)
                  · intro bf ac wv hfb haf hJ K' hK
                    obtain ⟨vs, rfl, j8, jn⟩ := hJ
                    replace hK := Lib.hid hK
                    have h8 : bf 8 = false := Bool.eq_false_iff.2 fun h => absurd (((j8 h).1 4 (by omega)).symm.trans hfb) (by simp)
                    obtain ⟨hM, j4⟩ := jn h8
                    simp [Region.binds] at haf
                    have e3 : vs 3 = _ := ((j4 3 (by simp [haf])).2.2 (by decide) (by decide)).trans E3.out
                    have s0 := keep1 (HBW.out _ hM.2) HY0.out
                    have s2 := World.block_lt_of_cell? _ _ s0
                    have s2 : b2 < wv.heap.size := s2
                    replace hM := Lib.hid hM
                    replace j4 := Lib.hid j4
                    clear haf hfb jn j8
                    rw [HLIT.out]
                    go_simp
                    exact hK.out _ _ (NP.next (wv := wv) (vs := vs) 4 (by omega) (by omega) (x := .int .i64 y) (by rw [HLIT.out]; simp only [upv, e3, Nat.reduceBEq, cond_true, cond_false]) h8 hM.out j4.out (fun _ _ h => h) ⟨fun h => absurd h (by decide), fun h => absurd h (by decide), fun _ _ => E4.out.symm⟩)
                  · intro bf ac wv hfb haf hJ K' hK
                    obtain ⟨vs, rfl, j8, jn⟩ := hJ
                    replace hK := Lib.hid hK
                    have h8 : bf 8 = false := Bool.eq_false_iff.2 fun h => absurd (((j8 h).1 5 (by omega)).symm.trans hfb) (by simp)
                    obtain ⟨hM, j4⟩ := jn h8
                    simp [Region.binds] at haf
                    have e4 : vs 4 = _ := ((j4 4 (by simp [haf])).2.2 (by decide) (by decide)).trans E4.out
                    replace hM := Lib.hid hM
                    replace j4 := Lib.hid j4
                    clear haf hfb jn j8
                    rw [HLIT.out]
                    go_simp
                    exact hK.out _ _ (NP.next (wv := wv) (vs := vs) 5 (by omega) (by omega) (x := .slice (some ⟨wv.heap.size, 0, none⟩) 1 1) (by rw [HLIT.out]; simp only [upv, e4, Nat.reduceBEq, cond_true, cond_false]) h8 ⟨fun h => keep2 (al _ _) (hM.out.1 h), hM.out.2.alloc (by have := hM.out.2.size; omega) _⟩ j4.out (Gp.step (al _ _)) ⟨fun _ _ => ⟨_, rfl, Cs.new wv wv.heap.size #[.int .i64 y] 3 rfl⟩, fun h => absurd h (by decide), fun h => absurd rfl h⟩)
                  · intro bf ac wv hfb haf hJ K' hK
                    obtain ⟨vs, rfl, j8, jn⟩ := hJ
                    replace hK := Lib.hid hK
                    have h8 : bf 8 = false := Bool.eq_false_iff.2 fun h => absurd (((j8 h).1 6 (by omega)).symm.trans hfb) (by simp)
                    obtain ⟨hM, j4⟩ := jn h8
                    simp [Region.binds] at haf
                    have e1 : vs 1 = _ := ((j4 1 (by simp [haf])).2.2 (by decide) (by decide)).trans E1.out
                    rw [hfb] at j4 hM
                    obtain ⟨g, e5, hg⟩ := (j4 5 (by simp [haf])).1 rfl rfl
                    have hM1 := Lib.hid (hM.1 rfl)
                    have hM2 := Lib.hid hM.2
                    clear hM haf
                    have hR0 := row_step HM.out.2.2.2.2 hM1.out
                    have nx : ∀ j u, ([.int .i64 y] : List Value)[j]? = some u → wv.cell? ((⟨g, 0, none⟩ : Addr).add j) = some u := fun j u hu => by
                      rw [Go.WideShapes.add_plain, Nat.zero_add]
                      have hj : j < 1 := by simpa using (List.getElem?_eq_some_iff.1 hu).1
                      exact hg.c j (by simpa using hu)
                    rw [HLIT.out]
                    refine step_append_lies _ rfl _ _ 27 rfl (w.heap.size + 4) 3 i0 _ 1 8 Try.underlying27 hi hz0 hz1 hz2 rfl (by decide) _ _ _ e1 hR0 ⟨g, 0, none⟩ 1 1 [.int .i64 y] e5 rfl nx (by simp [Value.oneCell']) (by omega) (by unfold maxLen; omega) (by omega) (by have := hM2.out.size; omega) _ rfl ?_
                    intro g2 cap2 w' hown hgrow _ _
                    exact hK.out _ _ (NP.app (vs := vs) (x := .slice (some ⟨g2, 0, none⟩) (xs.length + 1) cap2) (by rw [HLIT.out]; rfl) h8 ⟨fun h => (by cases h), hM2.out.grown hgrow (by have := hM2.out.size; omega) (fun k e => row_own hR0 k e)⟩ (fun j hj hb => ⟨fun _ h => (by cases h), fun h => absurd h hj, (j4 j hb).2.2⟩) ⟨fun h => absurd h (by decide), fun _ => row_snoc hown, fun _ h => absurd rfl h⟩)
                  · intro bf ac wv hfb haf hJ K' hK
                    obtain ⟨vs, rfl, j8, jn⟩ := hJ
                    replace hK := Lib.hid hK
                    have h8 : bf 8 = false := Bool.eq_false_iff.2 fun h => absurd (((j8 h).1 7 (by omega)).symm.trans hfb) (by simp)
                    obtain ⟨hM, j4⟩ := jn h8
                    replace hM := Lib.hid hM
                    replace j4 := Lib.hid j4
                    clear haf hfb jn j8
                    rw [HLIT.out]
                    go_simp
                    exact hK.out _ _ (NP.next (wv := wv) (vs := vs) 7 (by omega) (by omega) (x := .pointer (some ⟨w.heap.size + 1 + 1 + 1, 0, none⟩)) (by rw [HLIT.out]; rfl) h8 hM.out j4.out (fun _ _ h => h) ⟨fun h => absurd h (by decide), fun h => absurd h (by decide), fun _ _ => E7.out.symm⟩)
                  · intro bf ac wv hfb haf hJ K' hK
                    obtain ⟨vs, rfl, -, jn⟩ := hJ
                    replace hK := Lib.hid hK
                    obtain ⟨hM, j4⟩ := jn hfb
                    simp [Region.binds] at haf
                    have HA : ∀ i, i < 8 → bf i = true := all8 (by simp [haf]) (by simp [haf]) (by simp [haf]) (by simp [haf]) (by simp [haf]) (by simp [haf]) (by simp [haf]) (by simp [haf])
                    replace HA := Lib.hid HA
                    have e6 := (j4 6 (by simp [haf])).2.1 rfl
                    have e7 : vs 7 = _ := ((j4 7 (by simp [haf])).2.2 (by decide) (by decide)).trans E7.out
                    clear haf hfb
                    have R6 := Lib.hid e6
                    obtain ⟨a7, c7, hx7⟩ := row_slice e6
                    simp only [List.length_append, List.length_cons, List.length_nil, Nat.zero_add] at hx7
                    rw [hx7] at R6
                    clear e6 j4 jn
                    have C3 := HM.out.2.2.1.stepB hM.2 (by omega)
                    have s0 := C3.c 0 rfl
                    have s1 := C3.f 0 (by simp)
                    have s2 := C3.2.2
                    clear C3
                    replace hM := Lib.hid hM
                    rw [HLIT.out]
                    go_simp
                    exact hK.out _ _ (NP.last (vs := vs) (by rw [HLIT.out]; simp only [hx7, e7]) HA.out ⟨⟨_, HM.out.put hM.out.2 R6.out⟩, (HBW.out _ hM.out.2).setCell (by simp; omega) _⟩)
                · intro bf ac wv hall hJ
                  obtain ⟨vs, rfl, hF, -⟩ := hJ
                  obtain ⟨-, ⟨v', hF1⟩, hF2⟩ := hF (hall 8 (by decide))
                  clear hall
                  have HM9 := Lib.hid hF1
                  have HB9 := Lib.hid hF2
                  clear hF1 hF2 hF
                  rw [HLIT.out]
                  dsimp only
                  go_wp2
                  go_roundg r.length
                  case rel => exact ⟨r, xs ++ [y], _, rfl, HTn, HRn, HM9, HN, (by simp; omega), HB9⟩
                  case measure => omega
              · have HN := Lib.hid (show xs ++ mg (x :: SR) r = mg sl ol by rw [← HE.out, mg_eq SR r (by have := HC.out; omega)])
                have e3 : decide (c < 0) = false := decide_eq_false o2
                clear HE hc
                go_wp2
                go_roundg r.length
                case rel => exact ⟨r, xs, _, rfl, HTn, HRn, HM, HN, by omega, HB⟩
                case measure => omega
end Go.Proofs.Ytoaleijfpocdjaa
