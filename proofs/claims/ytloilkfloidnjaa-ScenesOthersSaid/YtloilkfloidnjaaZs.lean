/- The walk of ScenesOthers. -/
import Derived.Test.YtloilkfloidnjaaZr
import Derived.Test.YtloilkfloidnjaaIv
import Derived.BigQuiet
namespace Go.Proofs.Ytloilkfloidnjaa
open Go.RowKit Go.WideMaps

/-- One value set. -/
def upv (vs : Nat → Value) (i : Nat) (x : Value) : Nat → Value := fun k => cond (k == i) x (vs k)
theorem upv_same (vs : Nat → Value) (i : Nat) (x : Value) : upv vs i x i = x := by simp [upv]
theorem upv_ne (vs : Nat → Value) (i k : Nat) (x : Value) (h : k ≠ i) : upv vs i x k = vs k := by
  unfold upv
  rw [show (k == i) = false by simpa using h]
  rfl
/-- A block lies whole. -/
def BoxN (W : World) (B : Nat) (vs : Array Value) (t : TypeId) : Prop := W.heap[B]? = some (.cells vs t (0, 0))
theorem BoxN.lt {W : World} {B : Nat} {t : TypeId} {vs : Array Value} (h : BoxN W B vs t) : B < W.heap.size := (Array.getElem?_eq_some_iff.1 h).1
theorem BoxN.cell {W : World} {B : Nat} {t : TypeId} {vs : Array Value} (h : BoxN W B vs t) (j : Nat) : W.cell? ⟨B, j, none⟩ = vs[j]? := by simp [World.cell?, show W.heap[B]? = _ from h]
theorem BoxN.new (W : World) (vs : Array Value) (t : TypeId) : BoxN (W.alloc (.cells vs t)) W.heap.size vs t := World.alloc_heap_new W _
theorem BoxN.step {W W' : World} {B : Nat} {t : TypeId} {vs : Array Value} (h : BoxN W B vs t) (hb : Below W.heap.size W W') : BoxN W' B vs t := (hb.block B h.lt).trans h
/-- A row lies as it lay, as long as nothing is stored. -/
theorem row_step {w w1 : World} {base e s : Nat} {v : Value} {n : Nat} {xs : List Value} (h : w.ownsRow base e s v n xs) (hb : Below w.heap.size w w1) : w1.ownsRow base e s v n xs := by
  refine ⟨h.1, ?_⟩
  rcases h.2 with h0 | ⟨g, cap, cur, h1, h2, h3, h4⟩
  · exact .inl h0
  · exact .inr ⟨g, cap, cur, h1, h2, (hb.block g (Array.getElem?_eq_some_iff.1 h3).1).trans h3, h4⟩
theorem row_own {w : World} {base e s : Nat} {v : Value} {n : Nat} {xs : List Value} (h : w.ownsRow base e s v n xs) (k : Nat) (hk : v.ownBlock = some k) : base ≤ k := by
  rcases h.2 with ⟨rfl, h0⟩ | ⟨g, cap, cur, rfl, h2, -⟩
  · cases hk
  · cases hk; exact h2
/-- A row of another kind's block stays. -/
theorem box_grown {w w' : World} {g : Nat} {cs : Array Value} {t : TypeId} {row : Option Nat} (h : BoxN w g cs t) (hg : w.grownBy w' row) (hne : row ≠ some g) : BoxN w' g cs t :=
  (hg.block g h.lt (fun e => hne e.symm)).trans h
theorem box_size {w : World} {g g2 : Nat} {cs cs2 : Array Value} {t t2 : TypeId} (h : BoxN w g cs t) (h2 : BoxN w g2 cs2 t2) (hne : cs.size ≠ cs2.size) : g ≠ g2 := by
  intro e
  rw [← e] at h2
  have h3 : w.heap[g]? = some (.cells cs t (0, 0)) := h
  have h4 : w.heap[g]? = some (.cells cs2 t2 (0, 0)) := h2
  rw [h3] at h4
  cases h4
  exact hne rfl
/-- An append whose equation is known, at a step of a region that draws its order. -/
theorem step_app {ops : Array Oper} {o : Oper} {a : Act} {w w' : World} {K : Act → World → Prop} {Q : Exit → Act → World → Prop} {E : Prop} (hgd : o.guard = none) (s x : Operand) (t : TypeId)
    (ho : o.op = .call { callee := .builtin .append, args := #[s, x], argTypes := #[t, t] }) (v sl v' : Value) (hs : a.eval s = v) (hx : a.eval x = sl)
    (hr : (Builtin.append_ #[t, t] o.type #[v, sl]).run Try.prog w = .ok v' w') (h : K (a.put o.dst v') w') :
    if Region.wanted o (yielded ops a.tmps) = true then Oper.wp Try.prog o a w K Q else E := by
  have hw : Region.wanted o (yielded ops a.tmps) = true := by simp [Region.wanted, hgd]
  rw [if_pos hw]
  unfold Oper.wp execOp
  simp only [ho, resolve, invoke, builtin, Sem.run_bind, Sem.run_pure, Result.andThen_ok, List.map_toArray, List.map_cons, List.map_nil, hs, hx, hr]
  exact h
/-- What comes up where a slice and one element more are appended to a new slice; c1, c2: the first, the second append has come up. -/
def Ga (val : List Value) (b0 a1 y a2 z E size n : Nat) (xs : List Value) (cy : Array Value) (n0 : Nat) (c1 c2 : Bool) (i : Nat) (v : Value) (w : World) : Prop :=
  (i = b0 → c1 = false → ∃ g, v = .slice (some ⟨g, 0, none⟩) 0 0 ∧ n0 ≤ g ∧ BoxN w g #[] E) ∧
  (i = a1 → c2 = false → w.ownsRow n0 E size v n xs) ∧
  (i = y → c2 = false → ∃ g, v = .slice (some ⟨g, 0, none⟩) 1 1 ∧ BoxN w g cy E) ∧
  (i = a2 ∨ i = z → w.ownsRow n0 E size v (n + 1) (xs ++ cy.toList)) ∧
  ((i ≠ b0 ∧ i ≠ a1 ∧ i ≠ y ∧ i ≠ a2 ∧ i ≠ z) → v = val.getD i undef)
theorem Ga.step {val : List Value} {b0 a1 y a2 z E size n : Nat} {xs : List Value} {cy : Array Value} {n0 : Nat} {c1 c2 : Bool} {w w1 : World} (hb : Below w.heap.size w w1) : ∀ i v, Ga val b0 a1 y a2 z E size n xs cy n0 c1 c2 i v w → Ga val b0 a1 y a2 z E size n xs cy n0 c1 c2 i v w1 := fun _ _ h =>
  ⟨fun e d => (h.1 e d).imp fun _ q => ⟨q.1, q.2.1, q.2.2.step hb⟩, fun e d => row_step (h.2.1 e d) hb, fun e d => (h.2.2.1 e d).imp fun _ q => ⟨q.1, q.2.step hb⟩, fun e => row_step (h.2.2.2.1 e) hb, h.2.2.2.2⟩
/-- The region's invariant. -/
def NA (lit : (Nat → Value) → Act) (p q r : Nat) (G : Bool → Bool → Nat → Value → World → Prop) (B : World → Prop) (bf : Nat → Bool) (ac : Act) (wv : World) : Prop :=
  ∃ vs, ac = lit vs ∧ (bf q = true → bf p = true) ∧ (bf r = true → bf q = true) ∧ B wv ∧ ∀ i, bf i = true → G (bf p) (bf q) i (vs i) wv
theorem NA.next {lit : (Nat → Value) → Act} {p q r : Nat} {G : Bool → Bool → Nat → Value → World → Prop} {B : World → Prop} {bf : Nat → Bool} {wv : World} {vs : Nat → Value} (i : Nat) (hq : i = q → bf p = true) (hr : i = r → bf q = true) {c1 c2 : Bool} (e1 : up bf i p = c1) (e2 : up bf i q = c2) {x : Value} {w' : World} {ac' : Act} (hac : ac' = lit (upv vs i x))
    (k : (bf q = true → bf p = true) ∧ (bf r = true → bf q = true) ∧ ∀ i, bf i = true → G (bf p) (bf q) i (vs i) wv) (hb : B w') (hs : ∀ k, k ≠ i → bf k = true → G (bf p) (bf q) k (vs k) wv → G c1 c2 k (vs k) w') (hx : G c1 c2 i x w') : NA lit p q r G B (up bf i) ac' w' := by
  obtain ⟨k1, k2, k3⟩ := k
  have hk : ∀ j, bf j = true → up bf i j = true := fun j hj => by unfold up; rw [hj]; simp
  refine ⟨upv vs i x, hac, fun h => ?_, fun h => ?_, hb, fun j hu => ?_⟩
  · by_cases e : q = i
    · exact hk _ (hq e.symm)
    · rw [up_ne _ _ _ e] at h; exact hk _ (k1 h)
  · by_cases e : r = i
    · exact hk _ (hr e.symm)
    · rw [up_ne _ _ _ e] at h; exact hk _ (k2 h)
  · rw [e1, e2]
    by_cases e : j = i
    · subst e; rw [upv_same]; exact hx
    · rw [up_ne _ _ _ e] at hu; rw [upv_ne _ _ _ _ e]; exact hs _ e hu (k3 j hu)
theorem empty_row {w : World} {base g e size : Nat} (h : BoxN w g #[] e) (hb : base ≤ g) : w.ownsRow base e size (.slice (some ⟨g, 0, none⟩) 0 0) 0 [] := ⟨by simp, .inr ⟨g, 0, _, rfl, hb, h, by omega, by unfold maxLen; omega, by simp, by simp⟩⟩
theorem news_of {w : World} {g e : Nat} {cy : Array Value} (h : BoxN w g cy e) : ∀ ad, some (⟨g, 0, none⟩ : Addr) = some ad → ∀ j u, cy.toList[j]? = some u → w.cell? (ad.add j) = some u := fun ad ha j u hu => by
  cases ha
  rw [Go.WideShapes.add_plain, Nat.zero_add, h.cell, ← Array.getElem?_toList]
  exact hu
theorem few_less {L : List Scn} {x : Scn} {n : Nat} (h : few (L ++ [x]) n = true) : few L n = true := by
  unfold few at h ⊢
  rw [List.all_append, Bool.and_eq_true, Bool.and_eq_true, Bool.and_eq_true, decide_eq_true_iff, decide_eq_true_iff] at h
  rw [h.1.1, decide_eq_true (show L.length ≤ 12 by have := h.2.1; simp at this; omega), decide_eq_true h.2.2]; rfl
theorem pcells {w : World} {a : Option Addr} {n c : Nat} {P : List (Scn × Value)} (h : PAt w (.slice a n c) P) (hn : P.length = n) : (scC P).length = n * 3 ∧ (∀ ad, a = some ad → ∀ j u, (scC P)[j]? = some u → w.cell? (ad.add j) = some u) ∧ (a = none → n = 0) := by
  obtain ⟨a2, c2, hv, -, h3, h4⟩ := h
  cases hv
  exact ⟨by rw [scC_len], h3, h4⟩
theorem ncells {w : World} {a : Option Addr} {n c : Nat} {N : List ByteArray} (h : NamesAt w (.slice a n c) N) : (N.map Value.string).length = n * 1 ∧ (∀ ad, a = some ad → ∀ j u, (N.map Value.string)[j]? = some u → w.cell? (ad.add j) = some u) ∧ (a = none → n = 0) := by
  obtain ⟨a2, c2, hv, h3, h4⟩ := names_cells h
  cases hv
  exact ⟨by simp, h3, h4⟩
/-- What 'Overlay' gives, in one form. -/
theorem ov_form {L : List Scn} {N : List ByteArray} {w' : World} {e : Ending} {b : Bool} (hb : kn L N = b) (h : kn L N = false ∧ e = .returned (.tuple #[.slice none 0 0, .int .i64 8]) ∨ kn L N = true ∧ ∃ v, e = .returned (.tuple #[v, .int .i64 0]) ∧ SettsAt w' v (ovl L N)) :
    ∃ a n c, e = .returned (.tuple #[.slice a n c, .int .i64 (if b then 0 else 8)]) ∧ SettsAt w' (.slice a n c) (if b then ovl L N else []) := by
  subst hb
  rcases h with ⟨h1, rfl⟩ | ⟨h1, v, rfl, h2⟩
  · exact ⟨none, 0, 0, by rw [h1]; rfl, by rw [h1]; exact ⟨none, 0, rfl, by simp, fun h => absurd rfl h⟩⟩
  · have h3 := h2
    obtain ⟨a, c, rfl, -⟩ := h3
    exact ⟨a, _, c, by rw [h1]; rfl, by rw [h1]; exact h2⟩
set_option maxRecDepth 100000 in
set_option maxHeartbeats 8000000 in
theorem others_walk (v : Value) (L : List Scn) (vn : Value) (N : List ByteArray) (x : Scn) (sv : Value) (w : World) (h : ScnsAt w v L) (hk : ∀ x ∈ L, x.ok) (hn : NamesAt w vn N) (hnk : ∀ x ∈ N, x.size ≤ maxLen) (hs : SettsAt w sv x.sets) (hsk : x.ok) (hB : L.length * 48 ≤ 140737488351232) :
    Calls Try.prog 10 #[v, vn, .agg #[.string x.name, .int .i64 x.layer, sv]] w fun e w' => e = .returned (.bool true) ∧ Below w.heap.size w w' := by
  have HNM := Lib.hid hsk.1
  obtain ⟨P, hP, hPA, hPS⟩ := scns_pairs h
  obtain ⟨xa, xn, xc, rfl⟩ : ∃ a n c, sv = .slice a n c := by
    obtain ⟨a, c, e, -⟩ := hs
    exact ⟨a, _, c, e⟩
  have B0 := al w (.cells #[.string x.name, .int .i64 x.layer, .slice xa xn xc] 44)
  have HS := Lib.hid (h.step B0)
  have HN := Lib.hid (hn.step B0)
  have HV := Lib.hid (hs.step B0)
  have HPA := Lib.hid (hPA.step B0)
  have HPS := Lib.hid (hPS.step B0)
  have HX := Lib.hid (BoxN.new w #[.string x.name, .int .i64 x.layer, .slice xa xn xc] 44)
  have HB := Lib.hid B0
  clear B0 hPA hPS
  have HF := Lib.hid (fun hf => few_fit (L := L) (N := N) hf hk hnk)
  have HF2 := Lib.hid (fun hf => few_fit (L := L ++ [x]) (N := N) hf (fun y hy => by rcases List.mem_append.1 hy with h | h; exact hk y h; rw [List.mem_singleton.1 h]; exact hsk) hnk)
  obtain ⟨a1, c1, rfl, -⟩ := h.open
  obtain ⟨an, cn, rfl, hnm, -⟩ := hn
  clear h hs
  have hPl := Lib.hid (show P.length = L.length by rw [← hP]; simp)
  replace hP := Lib.hid hP
  have hPm : L.length ≤ maxLen := by rw [← hPl.out]; obtain ⟨a9, c9, -, h9, -⟩ := HPA.out; exact h9
  go_enter Try.func10, Try.ntmps10
  go_wp2_with fail
  refine (head_any _).mono ?_
  rintro e w2 ⟨rfl, b2⟩
  replace HS := Lib.hid (HS.out.step b2)
  replace HN := Lib.hid (HN.out.step b2)
  replace HV := Lib.hid (HV.out.step b2)
  replace HPA := Lib.hid (HPA.out.step b2)
  replace HPS := Lib.hid (HPS.out.step b2)
  replace HX := Lib.hid (HX.out.step b2)
  replace HB := Lib.hid (keep2 b2 HB.out)
  clear b2
  go_upto_region 2 with fail
  have hB2 := hB
  clear hB
  skip
  obtain ⟨lit, hlit⟩ : ∃ lit : (Nat → Value) → Act, lit = fun vs => { tmps := List.toArray (Value.slice a1 L.length c1 :: Value.slice an N.length cn :: Value.agg #[Value.string x.name, Value.int IntKind.i64 x.layer, Value.slice xa xn xc] :: undef :: undef :: Value.pointer (some { block := w.heap.size, off := 0 }) :: Value.bool false :: Value.bool true :: vs 6 :: undef :: undef :: undef :: undef :: undef :: undef :: undef :: undef :: undef :: undef :: Value.bool true :: vs 0 :: vs 1 :: vs 2 :: vs 3 :: vs 4 :: vs 5 :: undef :: undef :: undef :: undef :: undef :: undef :: undef :: undef :: undef :: undef :: undef :: undef :: undef :: undef :: undef :: undef :: undef :: undef :: undef :: undef :: undef :: undef :: undef :: undef :: undef :: undef :: undef :: undef :: undef :: undef :: undef :: undef :: undef :: undef :: undef :: undef :: undef :: undef :: undef :: undef :: undef :: undef :: undef :: undef :: undef :: undef :: undef :: undef :: undef :: undef :: undef :: undef :: undef :: undef :: undef :: undef :: undef :: undef :: undef :: undef :: undef :: undef :: undef :: undef :: undef :: undef :: undef :: undef :: undef :: undef :: undef :: undef :: undef :: undef :: undef :: undef :: undef :: undef :: undef :: undef :: undef :: undef :: []), defers := [] } := ⟨_, rfl⟩
  have HLIT := Lib.hid hlit
  clear hlit
  obtain ⟨val, hval⟩ : ∃ val : List Value, val = [undef, .slice a1 L.length c1, undef, .agg #[.string x.name, .int .i64 x.layer, .slice xa xn xc], undef, undef, undef] := ⟨_, rfl⟩
  have E1 := Lib.hid (show val.getD 1 undef = .slice a1 L.length c1 by rw [hval]; rfl)
  have E3 := Lib.hid (show val.getD 3 undef = .agg #[.string x.name, .int .i64 x.layer, .slice xa xn xc] by rw [hval]; rfl)
  clear hval
  obtain ⟨G, hG0⟩ : ∃ G, G = Ga val 0 2 4 5 6 44 3 (L.length) (scC P) #[.string x.name, .int .i64 x.layer, .slice xa xn xc] w2.heap.size := ⟨_, rfl⟩
  have HG := Lib.hid hG0
  clear hG0
  obtain ⟨i0, hi, hz0, hz1, hz2⟩ := info_parts info44
  refine region_inv (NA lit 2 5 6 G (Below w2.heap.size w2)) (by kernel_rfl) (by decide +kernel) ?_ ?_ ?_
  · exact ⟨fun i => ([undef, undef, undef, undef, undef, undef, undef] : List Value).getD i undef, (by rw [HLIT.out]; rfl), fun h => (by cases h), fun h => (by cases h), below_drew _ _, fun i h => (by cases h)⟩
  · refine ⟨?_, ?_, ?_, ?_, ?_, ?_, ?_, trivial⟩
    · intro bf ac wv hfb haf hJ K' hK
      obtain ⟨vs, rfl, j1, j2, hM, j4⟩ := hJ
      replace hK := Lib.hid hK
      have HM := Lib.hid hM
      clear hM
      rw [HG.out] at j4
      clear haf
      replace j4 := Lib.hid (And.intro j1 (And.intro j2 j4))
      clear j1 j2
      rw [HLIT.out]
      go_simp
      exact hK.out _ _ (NA.next (vs := vs) 0 (fun h => by omega) (fun h => by omega) (up_ne _ _ _ (by omega)) (up_ne _ _ _ (by omega)) (x := .slice (some ⟨wv.heap.size, 0, none⟩) 0 0) (by rw [HLIT.out]; rfl) (by rw [HG.out]; exact j4.out) (keep2 (al _ _) HM.out) (by rw [HG.out]; exact fun k _ _ h => Ga.step (al _ _) k _ h) (by rw [HG.out]; exact ⟨fun _ _ => ⟨wv.heap.size, rfl, HM.out.size, BoxN.new wv #[] 44⟩, fun h => absurd h (by decide), fun h => absurd h (by decide), fun h => absurd h (by decide), fun h => absurd rfl h.1⟩))
    · intro bf ac wv hfb haf hJ K' hK
      obtain ⟨vs, rfl, j1, j2, hM, j4⟩ := hJ
      replace hK := Lib.hid hK
      have HM := Lib.hid hM
      clear hM
      rw [HG.out] at j4
      clear haf
      replace j4 := Lib.hid (And.intro j1 (And.intro j2 j4))
      clear j1 j2
      rw [HLIT.out]
      go_simp
      exact hK.out _ _ (NA.next (vs := vs) 1 (fun h => by omega) (fun h => by omega) (up_ne _ _ _ (by omega)) (up_ne _ _ _ (by omega)) (x := .slice a1 L.length c1) (by rw [HLIT.out]; rfl) (by rw [HG.out]; exact j4.out) HM.out (by rw [HG.out]; exact fun _ _ _ h => h) (by rw [HG.out]; exact ⟨fun h => absurd h (by decide), fun h => absurd h (by decide), fun h => absurd h (by decide), fun h => absurd h (by decide), fun _ => E1.out.symm⟩))
    · intro bf ac wv hfb haf hJ K' hK
      obtain ⟨vs, rfl, j1, j2, hM, j4⟩ := hJ
      replace hK := Lib.hid hK
      have HM := Lib.hid hM
      clear hM
      simp [Region.binds] at haf
      rw [HG.out] at j4
      have h2f : bf 5 = false := Bool.eq_false_iff.2 fun h => absurd ((j1 h).symm.trans hfb) (by simp)
      have hzf : bf 6 = false := Bool.eq_false_iff.2 fun h => absurd ((j2 h).symm.trans h2f) (by simp)
      rw [hfb, h2f] at j4
      obtain ⟨g2, e0, hg2, hb2⟩ := (j4 0 (by simp [haf])).1 rfl rfl
      have e1 : vs 1 = _ := ((j4 1 (by simp [haf])).2.2.2.2 ⟨by decide, by decide, by decide, by decide, by decide⟩).trans E1.out
      obtain ⟨ca, cc, cn⟩ := pcells (HPA.out.step HM.out) hPl.out
      obtain ⟨v5, w5, hr5, ho5, hg5⟩ := run_app_gen (ty := 22) Try.underlying22 hi hz0 hz1 hz2 rfl (by decide) wv w2.heap.size 0 (.slice (some ⟨g2, 0, none⟩) 0 0) [] (empty_row hb2 hg2) _ _ _ (scC P) ca cc cn (HPS.out.step HM.out).one (by first | (unfold maxLen at hPm ⊢; omega) | omega) (by first | (unfold maxLen at hPm ⊢; omega) | omega) HM.out.size
      rw [Nat.zero_add, List.nil_append] at ho5
      rw [HLIT.out]
      refine step_app rfl _ _ 22 rfl _ _ v5 e0 e1 hr5 ?_
      exact hK.out _ _ (NA.next (vs := vs) 2 (fun h => by omega) (fun h => by omega) (up_same _ _) ((up_ne _ _ _ (by omega)).trans h2f) (x := v5) (by rw [HLIT.out]; rfl) (by rw [HG.out, hfb, h2f]; exact ⟨fun h => (by cases h), fun h => (by rw [hzf] at h; cases h), j4⟩) (HM.out.grown hg5 HM.out.size (fun k e => by cases e; exact hg2)) (by
        rw [HG.out, hfb, h2f]
        exact fun k hk hbk h => ⟨fun _ d => (by cases d), fun e => absurd e hk, fun e d => (h.2.2.1 e d).imp fun g q => ⟨q.1, box_grown q.2 hg5 (fun e => box_size q.2 hb2 (by simp) (by cases e; rfl))⟩, fun e => e.elim (fun e => absurd ((e ▸ hbk : bf 5 = true).symm.trans h2f) (by simp)) (fun e => absurd ((e ▸ hbk : bf 6 = true).symm.trans hzf) (by simp)), h.2.2.2.2⟩) (by rw [HG.out]; exact ⟨fun h => absurd h (by decide), fun _ _ => ho5, fun h => absurd h (by decide), fun h => absurd h (by decide), fun h => absurd rfl h.2.1⟩))
    · intro bf ac wv hfb haf hJ K' hK
      obtain ⟨vs, rfl, j1, j2, hM, j4⟩ := hJ
      replace hK := Lib.hid hK
      have HM := Lib.hid hM
      clear hM
      rw [HG.out] at j4
      clear haf
      replace j4 := Lib.hid (And.intro j1 (And.intro j2 j4))
      clear j1 j2
      have xb := HX.out.step HM.out
      have xx0 := xb.cell 0
      have xx1 := xb.cell 1
      have xx2 := xb.cell 2
      have xl := xb.lt
      simp at xx0 xx1 xx2
      clear xb
      rw [HLIT.out]
      go_simp
      exact hK.out _ _ (NA.next (vs := vs) 3 (fun h => by omega) (fun h => by omega) (up_ne _ _ _ (by omega)) (up_ne _ _ _ (by omega)) (x := .agg #[.string x.name, .int .i64 x.layer, .slice xa xn xc]) (by rw [HLIT.out]; rfl) (by rw [HG.out]; exact j4.out) HM.out (by rw [HG.out]; exact fun _ _ _ h => h) (by rw [HG.out]; exact ⟨fun h => absurd h (by decide), fun h => absurd h (by decide), fun h => absurd h (by decide), fun h => absurd h (by decide), fun _ => E3.out.symm⟩))
    · intro bf ac wv hfb haf hJ K' hK
      obtain ⟨vs, rfl, j1, j2, hM, j4⟩ := hJ
      replace hK := Lib.hid hK
      have HM := Lib.hid hM
      clear hM
      simp [Region.binds] at haf
      rw [HG.out] at j4
      have e3 : vs 3 = _ := ((j4 3 (by simp [haf])).2.2.2.2 ⟨by decide, by decide, by decide, by decide, by decide⟩).trans E3.out
      clear haf
      replace j4 := Lib.hid (And.intro j1 (And.intro j2 j4))
      clear j1 j2
      rw [HLIT.out]
      go_simp
      exact hK.out _ _ (NA.next (vs := vs) 4 (fun h => by omega) (fun h => by omega) (up_ne _ _ _ (by omega)) (up_ne _ _ _ (by omega)) (x := .slice (some ⟨wv.heap.size, 0, none⟩) 1 1) (by rw [HLIT.out]; simp only [upv, e3, Nat.reduceBEq, cond_true, cond_false]) (by rw [HG.out]; exact j4.out) (keep2 (al _ _) HM.out) (by rw [HG.out]; exact fun k _ _ h => Ga.step (al _ _) k _ h) (by rw [HG.out]; exact ⟨fun h => absurd h (by decide), fun h => absurd h (by decide), fun _ _ => ⟨wv.heap.size, rfl, BoxN.new wv #[.string x.name, .int .i64 x.layer, .slice xa xn xc] 44⟩, fun h => absurd h (by decide), fun h => absurd rfl h.2.2.1⟩))
    · intro bf ac wv hfb haf hJ K' hK
      obtain ⟨vs, rfl, j1, j2, hM, j4⟩ := hJ
      replace hK := Lib.hid hK
      have HM := Lib.hid hM
      clear hM
      simp [Region.binds] at haf
      rw [HG.out] at j4
      have hzf : bf 6 = false := Bool.eq_false_iff.2 fun h => absurd ((j2 h).symm.trans hfb) (by simp)
      have h1t : bf 2 = true := by simp [haf]
      rw [hfb, h1t] at j4
      have e2 := (j4 2 h1t).2.1 rfl rfl
      obtain ⟨g7, e4, hb7⟩ := (j4 4 (by simp [haf])).2.2.1 rfl rfl
      obtain ⟨v8, w8, hr8, ho8, hg8⟩ := run_app_gen (ty := 22) Try.underlying22 hi hz0 hz1 hz2 rfl (by decide) wv w2.heap.size (L.length) (vs 2) (scC P) e2 (some ⟨g7, 0, none⟩) 1 1 (#[.string x.name, .int .i64 x.layer, .slice xa xn xc]).toList (by simp) (news_of hb7) (fun h => by cases h) (by simp [Value.oneCell']) (by first | (unfold maxLen at hPm ⊢; omega) | omega) (by first | (unfold maxLen at hPm ⊢; omega) | omega) HM.out.size
      rw [HLIT.out]
      refine step_app rfl _ _ 22 rfl _ _ v8 rfl e4 hr8 ?_
      exact hK.out _ _ (NA.next (vs := vs) 5 (fun _ => h1t) (fun h => by omega) ((up_ne _ _ _ (by omega)).trans h1t) (up_same _ _) (x := v8) (by rw [HLIT.out]; rfl) (by rw [HG.out, hfb, h1t]; exact ⟨fun h => (by cases h), fun h => (by rw [hzf] at h; cases h), j4⟩) (HM.out.grown hg8 HM.out.size (fun k e => row_own e2 k e)) (by
        rw [HG.out, hfb, h1t]
        exact fun k hk hbk h => ⟨fun _ d => (by cases d), fun _ d => (by cases d), fun _ d => (by cases d), fun e => e.elim (fun e => absurd e hk) (fun e => absurd ((e ▸ hbk : bf 6 = true).symm.trans hzf) (by simp)), h.2.2.2.2⟩) (by rw [HG.out]; exact ⟨fun h => absurd h (by decide), fun h => absurd h (by decide), fun h => absurd h (by decide), fun _ => ho8, fun h => absurd rfl h.2.2.2.1⟩))
    · intro bf ac wv hfb haf hJ K' hK
      obtain ⟨vs, rfl, j1, j2, hM, j4⟩ := hJ
      replace hK := Lib.hid hK
      have HM := Lib.hid hM
      clear hM
      simp [Region.binds] at haf
      rw [HG.out] at j4
      have e5 := (j4 5 (by simp [haf])).2.2.2.1 (.inl rfl)
      have h2t : bf 5 = true := by simp [haf]
      obtain ⟨a7, c7, hx7⟩ := row_slice e5
      have R7 := Lib.hid e5
      rw [hx7] at R7
      clear e5
      clear haf
      replace j4 := Lib.hid (And.intro j1 (And.intro j2 j4))
      clear j1 j2
      rw [HLIT.out]
      go_simp
      exact hK.out _ _ (NA.next (vs := vs) 6 (fun h => by omega) (fun _ => h2t) (up_ne _ _ _ (by omega)) (up_ne _ _ _ (by omega)) (x := .slice a7 (L.length + 1) c7) (by rw [HLIT.out]; simp only [upv, hx7, Nat.reduceBEq, cond_true, cond_false]) (by rw [HG.out]; exact j4.out) HM.out (by rw [HG.out]; exact fun _ _ _ h => h) (by rw [HG.out]; exact ⟨fun h => absurd h (by decide), fun h => absurd h (by decide), fun h => absurd h (by decide), fun _ => R7.out, fun h => absurd rfl h.2.2.2.2⟩))
  · intro bf ac wv hall hJ
    obtain ⟨us, rfl, -, -, hM, j4⟩ := hJ
    rw [HG.out] at j4
    have hrz := (j4 6 (hall 6 (by decide))).2.2.2.1 (.inr rfl)
    clear j4 hall
    obtain ⟨a7, c7, hx7⟩ := row_slice hrz
    rw [hx7] at hrz
    rw [HLIT.out]
    dsimp only
    rw [hx7]
    clear hx7 HLIT HG E1 E3 hi hz0 hz1 hz2
    have HR := Lib.hid hrz
    clear hrz
    replace HS := Lib.hid (HS.out.step hM)
    replace HN := Lib.hid (HN.out.step hM)
    replace HV := Lib.hid (HV.out.step hM)
    replace HPA := Lib.hid (HPA.out.step hM)
    replace HPS := Lib.hid (HPS.out.step hM)
    replace HX := Lib.hid (HX.out.step hM)
    replace HB := Lib.hid (keep2 hM HB.out)
    have HM2 := Lib.hid (show ScnsAt wv (.slice a7 (L.length + 1) c7) (L ++ [x]) from by
      have h1 : PS wv (P ++ [(x, .slice xa xn xc)]) := fun p hp => by
        rcases List.mem_append.1 hp with h | h
        · exact HPS.out p h
        · rw [List.mem_singleton.1 h]; exact HV.out
      have h2 := scns_of_row (base := w2.heap.size) (P := P ++ [(x, .slice xa xn xc)]) (by rw [List.length_append, hPl.out, scC_app]; exact HR.out) h1 (by rw [List.length_append, hPl.out]; unfold maxLen; simp; omega)
      rw [List.map_append, hP.out] at h2
      exact h2)
    clear hM HR HPA HPS HV
    obtain ⟨mn, hmn⟩ : ∃ n, L.length + 1 = n := ⟨_, rfl⟩
    rw [hmn] at HM2 ⊢
    clear hmn hB2 hPm hPl
    go_wp2_with fail
    refine (few_call HM2.out HN.out).mono ?_
    rintro e w3 ⟨rfl, rfl⟩
    cases hf : few (L ++ [x]) N.length
    · go_wp2
      go_ret
      exact ⟨rfl, HB.out⟩
    have FT2 := Lib.hid (HF2.out hf)
    have FT := Lib.hid (HF.out (few_less hf))
    clear hf HF HF2
    by_cases h19 : N.length ≤ 19
    rotate_left
    · have q1 : decide ((N.length : Int) > 19) = true := by simp; omega
      have q2 : decide ((19 : Int) < N.length) = true := by simp; omega
      go_wp2
      go_ret
      exact ⟨rfl, HB.out⟩
    have q1 : decide ((N.length : Int) > 19) = false := by simp; omega
    have q2 : decide ((19 : Int) < N.length) = false := by simp; omega
    go_wp2_with fail
    obtain ⟨W3, hW3⟩ : ∃ W, wv = W := ⟨_, rfl⟩
    rw [hW3] at HS HN HX HB HM2 ⊢
    clear hW3
    obtain ⟨us2, hus⟩ : ∃ u, us = u := ⟨_, rfl⟩
    rw [hus]
    clear hus
    go_loopw [9] (fun i wr => ∃ k : Nat, k ≤ N.length ∧ i = .int .i64 k ∧ Hid (∀ j (hj : j < N.length), j < k → sE N[j] x.name = false) ∧ Hid (Below W3.heap.size W3 wr)) (fun i _ => N.length - (intOf i).toNat)
    case atStart => exact ⟨0, by omega, rfl, fun j hj h => absurd h (by omega), Below.refl _ _⟩
    case round =>
      obtain ⟨k, hk2, rfl, HK, HW⟩ := hrel
      replace HS := Lib.hid (HS.out.step HW.out)
      replace HN := Lib.hid (HN.out.step HW.out)
      replace HX := Lib.hid (HX.out.step HW.out)
      replace HM2 := Lib.hid (HM2.out.step HW.out)
      replace HB := Lib.hid (keep2 HW.out HB.out)
      by_cases hlt : k < N.length
      · obtain ⟨a9, c9, hva, -, hcs⟩ := HN.out
        obtain ⟨rfl, rfl⟩ : an = a9 ∧ cn = c9 := by simpa using hva
        obtain ⟨b, off, rfl, hcs2⟩ := hcs (by intro h; rw [h] at hlt; simp at hlt)
        have hx := hcs2 k N[k] (by simp)
        clear hcs hcs2 hva
        have hxb := World.block_lt_of_cell? _ _ hx
        have hxb : b < wr.heap.size := hxb
        have x0 := HX.out.cell 0
        simp at x0
        have xl := HX.out.lt
        cases ht : sE N[k] x.name
        · have HK2 := Lib.hid (show ∀ j (hj : j < N.length), j < k + 1 → sE N[j] x.name = false from fun j hj h => by
            by_cases e : j = k
            · subst e; exact ht
            · exact HK.out j hj (by omega))
          unfold sE at ht
          generalize N[k] = nm at *
          generalize x.name = xnm at *
          go_wp2_with fail
          go_quiet (fail)
          go_wp2
          go_roundw
          case rel => exact ⟨k + 1, by omega, by go_num, HK2, Lib.hid (HW.out.trans (below_drewN' _ _ _))⟩
          case measure => simp [intOf]; omega
        · unfold sE at ht
          generalize N[k] = nm at *
          generalize x.name = xnm at *
          go_wp2_with fail
          go_quiet (fail)
          go_wp2
          go_ret
          exact ⟨rfl, HB.out.trans (below_drewN' _ _ _)⟩
      have hne := Lib.hid (show ∀ t ∈ N, t ≠ x.name from fun t ht e => by
        obtain ⟨j, hj, rfl⟩ := List.getElem_of_mem ht
        have h1 := HK.out j hj (by omega)
        rw [sE_iff.2 e] at h1
        cases h1)
      clear HK HW
      obtain ⟨er, her⟩ : ∃ er : Int, (if kn L N then 0 else 8) = er := ⟨_, rfl⟩
      replace her := Lib.hid her
      go_wp2_with fail
      refine (overlay_any _ _ (L) (N) _ HS.out HN.out FT.out).mono ?_
      rintro e v4 ⟨ho, b4⟩
      obtain ⟨oa4, on4, oc4, rfl, ho4⟩ := ov_form (rfl) ho
      clear ho
      replace HS := Lib.hid (HS.out.step b4)
      replace HN := Lib.hid (HN.out.step b4)
      replace HM2 := Lib.hid (HM2.out.step b4)
      replace HX := Lib.hid (HX.out.step b4)
      replace HB := Lib.hid (keep2 b4 HB.out)
      clear b4
      rw [her.out]
      have HO4 := Lib.hid ho4
      clear ho4
      go_wp2_with fail
      refine (overlay_any _ _ (L ++ [x]) (N) _ HM2.out HN.out FT2.out).mono ?_
      rintro e v5 ⟨ho, b5⟩
      obtain ⟨oa5, on5, oc5, rfl, ho5⟩ := ov_form (kn_more hne.out) ho
      clear ho
      replace HS := Lib.hid (HS.out.step b5)
      replace HN := Lib.hid (HN.out.step b5)
      replace HM2 := Lib.hid (HM2.out.step b5)
      replace HX := Lib.hid (HX.out.step b5)
      replace HO4 := Lib.hid (HO4.out.step b5)
      replace HB := Lib.hid (keep2 b5 HB.out)
      clear b5
      rw [her.out]
      have HO5 := Lib.hid (show SettsAt v5 (.slice oa5 on5 oc5) (if kn L N then ovl L N else []) from by
        have h1 := ho5
        cases h2 : kn L N
        · rw [h2] at h1; exact h1
        · rw [h2] at h1; simp only [if_true] at h1 ⊢; rwa [ovl_more h2 hne.out] at h1)
      clear ho5
      go_wp2_with fail
      refine (same_any _ _ _ _ _ HO4.out HO5.out).mono ?_
      rintro e v6 ⟨rfl, b6⟩
      rw [eqL_refl]
      replace HS := Lib.hid (HS.out.step b6)
      replace HN := Lib.hid (HN.out.step b6)
      replace HM2 := Lib.hid (HM2.out.step b6)
      replace HX := Lib.hid (HX.out.step b6)
      replace HO4 := Lib.hid (HO4.out.step b6)
      replace HO5 := Lib.hid (HO5.out.step b6)
      replace HB := Lib.hid (keep2 b6 HB.out)
      clear b6
      clear HO4 HO5
      have x0 := HX.out.cell 0
      simp at x0
      have xl := HX.out.lt
      go_wp2_with fail
      refine (find_any _ L x.name _ HS.out).mono ?_
      rintro e v7 ⟨rfl, rfl⟩
      cases hfi : fI L x.name
      rotate_left
      · rename_i q
        have q3 : (0 : Int) ≤ (q : Int) := by omega
        have q4 : decide ((q : Int) ≥ 0) = true := by simp
        have q5 : decide ((0 : Int) ≤ (q : Int)) = true := by simp
        simp only [fInt]
        go_wp2
        go_ret
        exact ⟨rfl, HB.out⟩
      (try simp only [fInt])
      go_upto_region 16 with fail
      clear x0 xl
      obtain ⟨W7, hW7⟩ : ∃ W, v6 = W := ⟨_, rfl⟩
      rw [hW7] at HS HN HX HB HM2 ⊢
      clear hW7
      obtain ⟨lit, hlit⟩ : ∃ lit : (Nat → Value) → Act, lit = fun vs => { tmps := List.toArray (Value.slice a1 L.length c1 :: Value.slice an N.length cn :: Value.agg #[Value.string x.name, Value.int IntKind.i64 x.layer, Value.slice xa xn xc] :: undef :: undef :: Value.pointer (some { block := w.heap.size, off := 0 }) :: u6 :: Value.bool true :: Value.slice a7 mn c7 :: Value.int IntKind.i64 (k : Int) :: Value.slice oa4 on4 oc4 :: Value.int IntKind.i64 er :: Value.slice oa5 on5 oc5 :: Value.int IntKind.i64 er :: vs 7 :: undef :: undef :: undef :: undef :: Value.bool true :: us2 0 :: us2 1 :: us2 2 :: us2 3 :: us2 4 :: us2 5 :: Value.slice a7 mn c7 :: Value.slice an N.length cn :: Value.bool true :: Value.bool false :: Value.bool false :: Value.slice an N.length cn :: Value.int IntKind.i64 (N.length : Int) :: Value.bool false :: Value.bool false :: undef :: Value.int IntKind.i64 (k : Int) :: Value.slice an N.length cn :: Value.int IntKind.i64 (N.length : Int) :: Value.bool false :: u40 :: u41 :: u42 :: u43 :: u44 :: u45 :: u46 :: u47 :: u48 :: u49 :: Value.tuple #[Value.slice oa4 on4 oc4, Value.int IntKind.i64 er] :: Value.slice a1 L.length c1 :: Value.slice an N.length cn :: Value.tuple #[Value.slice oa4 on4 oc4, Value.int IntKind.i64 er] :: Value.slice oa4 on4 oc4 :: Value.int IntKind.i64 er :: Value.tuple #[Value.slice oa5 on5 oc5, Value.int IntKind.i64 er] :: Value.slice a7 mn c7 :: Value.slice an N.length cn :: Value.tuple #[Value.slice oa5 on5 oc5, Value.int IntKind.i64 er] :: Value.slice oa5 on5 oc5 :: Value.int IntKind.i64 er :: Value.int IntKind.i64 er :: Value.int IntKind.i64 er :: Value.bool false :: Value.bool false :: Value.slice oa4 on4 oc4 :: Value.slice oa5 on5 oc5 :: Value.bool true :: Value.bool false :: Value.bool false :: Value.slice a1 L.length c1 :: Value.pointer (some { block := w.heap.size, off := 0 }) :: Value.string x.name :: Value.int IntKind.i64 (-1) :: Value.bool false :: undef :: vs 0 :: vs 1 :: vs 2 :: vs 3 :: vs 4 :: vs 5 :: vs 6 :: undef :: undef :: undef :: undef :: undef :: undef :: undef :: undef :: undef :: undef :: undef :: undef :: undef :: undef :: undef :: undef :: undef :: undef :: undef :: undef :: undef :: undef :: undef :: undef :: []), defers := [] } := ⟨_, rfl⟩
      have HLIT := Lib.hid hlit
      clear hlit
      obtain ⟨val, hval⟩ : ∃ val : List Value, val = [undef, .slice an N.length cn, undef, .pointer (some ⟨w.heap.size, 0, none⟩), .string x.name, undef, undef, undef] := ⟨_, rfl⟩
      have E1 := Lib.hid (show val.getD 1 undef = .slice an N.length cn by rw [hval]; rfl)
      have E3 := Lib.hid (show val.getD 3 undef = .pointer (some ⟨w.heap.size, 0, none⟩) by rw [hval]; rfl)
      have E4 := Lib.hid (show val.getD 4 undef = .string x.name by rw [hval]; rfl)
      clear hval
      obtain ⟨G, hG0⟩ : ∃ G, G = Ga val 0 2 5 6 7 9 1 (N.length) (N.map Value.string) #[.string x.name] W7.heap.size := ⟨_, rfl⟩
      have HG := Lib.hid hG0
      clear hG0
      obtain ⟨i0, hi, hz0, hz1, hz2⟩ := info_parts info9
      refine region_inv (NA lit 2 6 7 G (Below W7.heap.size W7)) (by kernel_rfl) (by decide +kernel) ?_ ?_ ?_
      · exact ⟨fun i => ([undef, undef, undef, undef, undef, undef, undef, undef] : List Value).getD i undef, (by rw [HLIT.out]; rfl), fun h => (by cases h), fun h => (by cases h), below_drew _ _, fun i h => (by cases h)⟩
      · refine ⟨?_, ?_, ?_, ?_, ?_, ?_, ?_, ?_, trivial⟩
        · intro bf ac wv hfb haf hJ K' hK
          obtain ⟨vs, rfl, j1, j2, hM, j4⟩ := hJ
          replace hK := Lib.hid hK
          have HM := Lib.hid hM
          clear hM
          rw [HG.out] at j4
          clear haf
          replace j4 := Lib.hid (And.intro j1 (And.intro j2 j4))
          clear j1 j2
          rw [HLIT.out]
          go_simp
          exact hK.out _ _ (NA.next (vs := vs) 0 (fun h => by omega) (fun h => by omega) (up_ne _ _ _ (by omega)) (up_ne _ _ _ (by omega)) (x := .slice (some ⟨wv.heap.size, 0, none⟩) 0 0) (by rw [HLIT.out]; rfl) (by rw [HG.out]; exact j4.out) (keep2 (al _ _) HM.out) (by rw [HG.out]; exact fun k _ _ h => Ga.step (al _ _) k _ h) (by rw [HG.out]; exact ⟨fun _ _ => ⟨wv.heap.size, rfl, HM.out.size, BoxN.new wv #[] 9⟩, fun h => absurd h (by decide), fun h => absurd h (by decide), fun h => absurd h (by decide), fun h => absurd rfl h.1⟩))
        · intro bf ac wv hfb haf hJ K' hK
          obtain ⟨vs, rfl, j1, j2, hM, j4⟩ := hJ
          replace hK := Lib.hid hK
          have HM := Lib.hid hM
          clear hM
          rw [HG.out] at j4
          clear haf
          replace j4 := Lib.hid (And.intro j1 (And.intro j2 j4))
          clear j1 j2
          rw [HLIT.out]
          go_simp
          exact hK.out _ _ (NA.next (vs := vs) 1 (fun h => by omega) (fun h => by omega) (up_ne _ _ _ (by omega)) (up_ne _ _ _ (by omega)) (x := .slice an N.length cn) (by rw [HLIT.out]; rfl) (by rw [HG.out]; exact j4.out) HM.out (by rw [HG.out]; exact fun _ _ _ h => h) (by rw [HG.out]; exact ⟨fun h => absurd h (by decide), fun h => absurd h (by decide), fun h => absurd h (by decide), fun h => absurd h (by decide), fun _ => E1.out.symm⟩))
        · intro bf ac wv hfb haf hJ K' hK
          obtain ⟨vs, rfl, j1, j2, hM, j4⟩ := hJ
          replace hK := Lib.hid hK
          have HM := Lib.hid hM
          clear hM
          simp [Region.binds] at haf
          rw [HG.out] at j4
          have h2f : bf 6 = false := Bool.eq_false_iff.2 fun h => absurd ((j1 h).symm.trans hfb) (by simp)
          have hzf : bf 7 = false := Bool.eq_false_iff.2 fun h => absurd ((j2 h).symm.trans h2f) (by simp)
          rw [hfb, h2f] at j4
          obtain ⟨g2, e0, hg2, hb2⟩ := (j4 0 (by simp [haf])).1 rfl rfl
          have e1 : vs 1 = _ := ((j4 1 (by simp [haf])).2.2.2.2 ⟨by decide, by decide, by decide, by decide, by decide⟩).trans E1.out
          obtain ⟨ca, cc, cn⟩ := ncells (HN.out.step HM.out)
          obtain ⟨v5, w5, hr5, ho5, hg5⟩ := run_app_gen (ty := 23) Try.underlying23 hi hz0 hz1 hz2 rfl (by decide) wv W7.heap.size 0 (.slice (some ⟨g2, 0, none⟩) 0 0) [] (empty_row hb2 hg2) _ _ _ (N.map Value.string) ca cc cn (fun u hu => by obtain ⟨s, -, rfl⟩ := List.mem_map.1 hu; rfl) (by first | (unfold maxLen; omega) | omega) (by first | (unfold maxLen; omega) | omega) HM.out.size
          rw [Nat.zero_add, List.nil_append] at ho5
          rw [HLIT.out]
          refine step_app rfl _ _ 23 rfl _ _ v5 e0 e1 hr5 ?_
          exact hK.out _ _ (NA.next (vs := vs) 2 (fun h => by omega) (fun h => by omega) (up_same _ _) ((up_ne _ _ _ (by omega)).trans h2f) (x := v5) (by rw [HLIT.out]; rfl) (by rw [HG.out, hfb, h2f]; exact ⟨fun h => (by cases h), fun h => (by rw [hzf] at h; cases h), j4⟩) (HM.out.grown hg5 HM.out.size (fun k e => by cases e; exact hg2)) (by
            rw [HG.out, hfb, h2f]
            exact fun k hk hbk h => ⟨fun _ d => (by cases d), fun e => absurd e hk, fun e d => (h.2.2.1 e d).imp fun g q => ⟨q.1, box_grown q.2 hg5 (fun e => box_size q.2 hb2 (by simp) (by cases e; rfl))⟩, fun e => e.elim (fun e => absurd ((e ▸ hbk : bf 6 = true).symm.trans h2f) (by simp)) (fun e => absurd ((e ▸ hbk : bf 7 = true).symm.trans hzf) (by simp)), h.2.2.2.2⟩) (by rw [HG.out]; exact ⟨fun h => absurd h (by decide), fun _ _ => ho5, fun h => absurd h (by decide), fun h => absurd h (by decide), fun h => absurd rfl h.2.1⟩))
        · intro bf ac wv hfb haf hJ K' hK
          obtain ⟨vs, rfl, j1, j2, hM, j4⟩ := hJ
          replace hK := Lib.hid hK
          have HM := Lib.hid hM
          clear hM
          rw [HG.out] at j4
          clear haf
          replace j4 := Lib.hid (And.intro j1 (And.intro j2 j4))
          clear j1 j2
          rw [HLIT.out]
          go_simp
          exact hK.out _ _ (NA.next (vs := vs) 3 (fun h => by omega) (fun h => by omega) (up_ne _ _ _ (by omega)) (up_ne _ _ _ (by omega)) (x := .pointer (some ⟨w.heap.size, 0, none⟩)) (by rw [HLIT.out]; rfl) (by rw [HG.out]; exact j4.out) HM.out (by rw [HG.out]; exact fun _ _ _ h => h) (by rw [HG.out]; exact ⟨fun h => absurd h (by decide), fun h => absurd h (by decide), fun h => absurd h (by decide), fun h => absurd h (by decide), fun _ => E3.out.symm⟩))
        · intro bf ac wv hfb haf hJ K' hK
          obtain ⟨vs, rfl, j1, j2, hM, j4⟩ := hJ
          replace hK := Lib.hid hK
          have HM := Lib.hid hM
          clear hM
          simp [Region.binds] at haf
          rw [HG.out] at j4
          have e3 : vs 3 = _ := ((j4 3 (by simp [haf])).2.2.2.2 ⟨by decide, by decide, by decide, by decide, by decide⟩).trans E3.out
          clear haf
          replace j4 := Lib.hid (And.intro j1 (And.intro j2 j4))
          clear j1 j2
          have xb := HX.out.step HM.out
          have xx0 := xb.cell 0
          have xl := xb.lt
          simp at xx0
          clear xb
          rw [HLIT.out]
          go_simp
          exact hK.out _ _ (NA.next (vs := vs) 4 (fun h => by omega) (fun h => by omega) (up_ne _ _ _ (by omega)) (up_ne _ _ _ (by omega)) (x := .string x.name) (by rw [HLIT.out]; simp only [upv, e3, Nat.reduceBEq, cond_true, cond_false]) (by rw [HG.out]; exact j4.out) HM.out (by rw [HG.out]; exact fun _ _ _ h => h) (by rw [HG.out]; exact ⟨fun h => absurd h (by decide), fun h => absurd h (by decide), fun h => absurd h (by decide), fun h => absurd h (by decide), fun _ => E4.out.symm⟩))
        · intro bf ac wv hfb haf hJ K' hK
          obtain ⟨vs, rfl, j1, j2, hM, j4⟩ := hJ
          replace hK := Lib.hid hK
          have HM := Lib.hid hM
          clear hM
          simp [Region.binds] at haf
          rw [HG.out] at j4
          have e4 : vs 4 = _ := ((j4 4 (by simp [haf])).2.2.2.2 ⟨by decide, by decide, by decide, by decide, by decide⟩).trans E4.out
          clear haf
          replace j4 := Lib.hid (And.intro j1 (And.intro j2 j4))
          clear j1 j2
          rw [HLIT.out]
          go_simp
          exact hK.out _ _ (NA.next (vs := vs) 5 (fun h => by omega) (fun h => by omega) (up_ne _ _ _ (by omega)) (up_ne _ _ _ (by omega)) (x := .slice (some ⟨wv.heap.size, 0, none⟩) 1 1) (by rw [HLIT.out]; simp only [upv, e4, Nat.reduceBEq, cond_true, cond_false]) (by rw [HG.out]; exact j4.out) (keep2 (al _ _) HM.out) (by rw [HG.out]; exact fun k _ _ h => Ga.step (al _ _) k _ h) (by rw [HG.out]; exact ⟨fun h => absurd h (by decide), fun h => absurd h (by decide), fun _ _ => ⟨wv.heap.size, rfl, BoxN.new wv #[.string x.name] 9⟩, fun h => absurd h (by decide), fun h => absurd rfl h.2.2.1⟩))
        · intro bf ac wv hfb haf hJ K' hK
          obtain ⟨vs, rfl, j1, j2, hM, j4⟩ := hJ
          replace hK := Lib.hid hK
          have HM := Lib.hid hM
          clear hM
          simp [Region.binds] at haf
          rw [HG.out] at j4
          have hzf : bf 7 = false := Bool.eq_false_iff.2 fun h => absurd ((j2 h).symm.trans hfb) (by simp)
          have h1t : bf 2 = true := by simp [haf]
          rw [hfb, h1t] at j4
          have e2 := (j4 2 h1t).2.1 rfl rfl
          obtain ⟨g7, e5, hb7⟩ := (j4 5 (by simp [haf])).2.2.1 rfl rfl
          obtain ⟨v8, w8, hr8, ho8, hg8⟩ := run_app_gen (ty := 23) Try.underlying23 hi hz0 hz1 hz2 rfl (by decide) wv W7.heap.size (N.length) (vs 2) (N.map Value.string) e2 (some ⟨g7, 0, none⟩) 1 1 (#[.string x.name]).toList (by simp) (news_of hb7) (fun h => by cases h) (by simp [Value.oneCell']) (by first | (unfold maxLen; omega) | omega) (by first | (unfold maxLen; omega) | omega) HM.out.size
          rw [HLIT.out]
          refine step_app rfl _ _ 23 rfl _ _ v8 rfl e5 hr8 ?_
          exact hK.out _ _ (NA.next (vs := vs) 6 (fun _ => h1t) (fun h => by omega) ((up_ne _ _ _ (by omega)).trans h1t) (up_same _ _) (x := v8) (by rw [HLIT.out]; rfl) (by rw [HG.out, hfb, h1t]; exact ⟨fun h => (by cases h), fun h => (by rw [hzf] at h; cases h), j4⟩) (HM.out.grown hg8 HM.out.size (fun k e => row_own e2 k e)) (by
            rw [HG.out, hfb, h1t]
            exact fun k hk hbk h => ⟨fun _ d => (by cases d), fun _ d => (by cases d), fun _ d => (by cases d), fun e => e.elim (fun e => absurd e hk) (fun e => absurd ((e ▸ hbk : bf 7 = true).symm.trans hzf) (by simp)), h.2.2.2.2⟩) (by rw [HG.out]; exact ⟨fun h => absurd h (by decide), fun h => absurd h (by decide), fun h => absurd h (by decide), fun _ => ho8, fun h => absurd rfl h.2.2.2.1⟩))
        · intro bf ac wv hfb haf hJ K' hK
          obtain ⟨vs, rfl, j1, j2, hM, j4⟩ := hJ
          replace hK := Lib.hid hK
          have HM := Lib.hid hM
          clear hM
          simp [Region.binds] at haf
          rw [HG.out] at j4
          have e6 := (j4 6 (by simp [haf])).2.2.2.1 (.inl rfl)
          have h2t : bf 6 = true := by simp [haf]
          obtain ⟨a7, c7, hx7⟩ := row_slice e6
          have R7 := Lib.hid e6
          rw [hx7] at R7
          clear e6
          clear haf
          replace j4 := Lib.hid (And.intro j1 (And.intro j2 j4))
          clear j1 j2
          rw [HLIT.out]
          go_simp
          exact hK.out _ _ (NA.next (vs := vs) 7 (fun h => by omega) (fun _ => h2t) (up_ne _ _ _ (by omega)) (up_ne _ _ _ (by omega)) (x := .slice a7 (N.length + 1) c7) (by rw [HLIT.out]; simp only [upv, hx7, Nat.reduceBEq, cond_true, cond_false]) (by rw [HG.out]; exact j4.out) HM.out (by rw [HG.out]; exact fun _ _ _ h => h) (by rw [HG.out]; exact ⟨fun h => absurd h (by decide), fun h => absurd h (by decide), fun h => absurd h (by decide), fun _ => R7.out, fun h => absurd rfl h.2.2.2.2⟩))
      · intro bf ac wv hall hJ
        obtain ⟨us, rfl, -, -, hM, j4⟩ := hJ
        rw [HG.out] at j4
        have hrz := (j4 7 (hall 7 (by decide))).2.2.2.1 (.inr rfl)
        clear j4 hall
        obtain ⟨a7, c7, hx7⟩ := row_slice hrz
        rw [hx7] at hrz
        rw [HLIT.out]
        dsimp only
        rw [hx7]
        clear hx7 HLIT HG E1 E3 E4 hi hz0 hz1 hz2
        have HNW := Lib.hid (show NamesAt wv (.slice a7 (N.length + 1) c7) (N ++ [x.name]) from names_of_row (base := W7.heap.size) (by rw [List.length_append, List.map_append]; exact hrz) (by rw [List.length_append]; unfold maxLen; simp; omega))
        clear hrz
        replace HS := Lib.hid (HS.out.step hM)
        replace HM2 := Lib.hid (HM2.out.step hM)
        replace HB := Lib.hid (keep2 hM HB.out)
        clear hM HX HN
        have hsz : ∀ y ∈ N ++ [x.name], y.size ≤ maxLen := fun y hy => by
          rcases List.mem_append.1 hy with h | h
          · exact FT.out.sizes y h
          · rw [List.mem_singleton.1 h]; exact HNM.out
        have hl20 : (N ++ [x.name]).length ≤ 20 := by rw [List.length_append]; simp; omega
        have G1 := Lib.hid (show Fit L (N ++ [x.name]) from ⟨FT.out.ok, FT.out.sets, FT.out.len, hsz, hl20⟩)
        have G2 := Lib.hid (show Fit (L ++ [x]) (N ++ [x.name]) from ⟨FT2.out.ok, FT2.out.sets, FT2.out.len, hsz, hl20⟩)
        clear hsz hl20
        have KW := Lib.hid (kn_with hfi hne.out)
        clear hfi
        go_wp2_with fail
        refine (overlay_any _ _ L (N ++ [x.name]) _ HS.out HNW.out G1.out).mono ?_
        rintro e v8 ⟨ho, b8⟩
        obtain ⟨oa8, on8, oc8, rfl, -⟩ := ov_form KW.out.1 ho
        clear ho
        replace HM2 := Lib.hid (HM2.out.step b8)
        replace HNW := Lib.hid (HNW.out.step b8)
        replace HB := Lib.hid (keep2 b8 HB.out)
        clear b8 HS
        simp only [Bool.false_eq_true, if_false]
        go_wp2_with fail
        refine (overlay_any _ _ (L ++ [x]) (N ++ [x.name]) _ HM2.out HNW.out G2.out).mono ?_
        rintro e v9 ⟨ho, b9⟩
        obtain ⟨oa9, on9, oc9, rfl, -⟩ := ov_form KW.out.2 ho
        clear ho
        replace HB := Lib.hid (keep2 b9 HB.out)
        clear b9
        rw [her.out]
        by_cases k0 : er = 0
        · subst k0
          go_wp2
          go_ret
          exact ⟨rfl, HB.out⟩
        · have k1 : (er == 0) = false := by simpa using k0
          have k2 : decide (er = 0) = false := by simpa using k0
          go_wp2
          go_ret
          exact ⟨rfl, HB.out⟩
end Go.Proofs.Ytloilkfloidnjaa
