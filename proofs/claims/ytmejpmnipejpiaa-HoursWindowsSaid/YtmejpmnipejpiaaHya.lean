/- Law HoursWindows: lists of windows appended; the walk. -/
import Derived.Test.YtmejpmnipejpiaaHw
import Derived.Test.YtmejpmnipejpiaaIv
namespace Go.Proofs.Ytmejpmnipejpiaa
open Go.RowKit Go.WideMaps

theorem run_app_gen {t ty e : TypeId} {i : TypeInfo} {z : Value} {size bytes : Nat} (ht : Try.prog.underlying t = some (.slice e)) (hi : Try.prog.info? e = some i) (hz : i.zero = some z) (hsize : i.size = size) (hby : i.bytes = bytes) (hzs : z.cells.size = size) (hsz : 0 < size)
    (w : World) (base n : Nat) (v : Value) (xs : List Value) (hown : w.ownsRow base e size v n xs) (a : Option Addr) (m cap : Nat) (news : List Value) (hl : news.length = m * size) (hc : ∀ ad, a = some ad → ∀ j u, news[j]? = some u → w.cell? (ad.add j) = some u) (hn : a = none → m = 0)
    (h1 : ∀ u ∈ news, u.oneCell' = true) (h63 : n + m ≤ maxLen) (hbytes : (n + m) * bytes ≤ 140737488355328) (hbase : base ≤ w.heap.size) :
    ∃ v' w', (Builtin.append_ #[t, t] ty #[v, .slice a m cap]).run Try.prog w = .ok v' w' ∧ w'.ownsRow base e size v' (n + m) (xs ++ news) ∧ w.grownBy w' v.ownBlock := by
  cases a with
  | none =>
    have hm := hn rfl
    subst hm
    have hnil : news = [] := by simpa using hl
    subst hnil
    have hg : w.grownBy w v.ownBlock := ⟨rfl, rfl, rfl, Nat.le_refl _, fun _ _ _ => rfl⟩
    refine ⟨v, w, ?_, by simpa using hown, hg⟩
    rcases hown.2 with ⟨rfl, rfl⟩ | ⟨g, c, cur, rfl, _, _, hnc, _⟩
    · simp [Builtin.append_, run_underlying ht, sizeOf, typeInfo, hi, Builtin.lenOf, Builtin.firstCells]
    · simp [Builtin.append_, run_underlying ht, sizeOf, typeInfo, hi, Builtin.lenOf, Builtin.firstCells, hnc, storeCells]
  | some ad =>
    obtain ⟨v', w', q1, q2, q3, -, -⟩ := run_append_own_at (P := Try.prog) w base t ty e i z size bytes ht hi hz hsize hby hzs hsz v n xs hown ad m cap news hl (hc ad rfl) h1 h63 hbytes hbase
    exact ⟨v', w', q1, q2, q3⟩
/-- One value set. -/
def upv (vs : Nat → Value) (i : Nat) (x : Value) : Nat → Value := fun k => cond (k == i) x (vs k)
theorem upv_same (vs : Nat → Value) (i : Nat) (x : Value) : upv vs i x i = x := by simp [upv]
theorem upv_ne (vs : Nat → Value) (i k : Nat) (x : Value) (h : k ≠ i) : upv vs i x k = vs k := by
  unfold upv
  rw [show (k == i) = false by simpa using h]
  rfl
theorem boxN_new (W : World) (vs : Array Value) (t : TypeId) : BoxN (W.alloc (.cells vs t)) W.heap.size vs t := World.alloc_heap_new W _
theorem row_own' {w : World} {base e s : Nat} {v : Value} {n : Nat} {xs : List Value} (h : w.ownsRow base e s v n xs) (k : Nat) (hk : v.ownBlock = some k) : base ≤ k := row_own h hk
/-- A row of another kind's block stays. -/
theorem box_grown {w w' : World} {g : Nat} {cs : Array Value} {t : TypeId} {row : Option Nat} (h : BoxN w g cs t) (hg : w.grownBy w' row) (hne : row ≠ some g) : BoxN w' g cs t :=
  (hg.block g h.lt (fun e => hne e.symm)).trans h
theorem box_size {w : World} {g g2 : Nat} {cs cs2 : Array Value} {t t2 : TypeId} (h : BoxN w g cs t) (h2 : BoxN w g2 cs2 t2) (hne : cs.size ≠ cs2.size) : g ≠ g2 := by
  intro e
  rw [← e] at h2
  have h3 : w.heap[g]? = some (.cells cs t (0, 0)) := h
  have h4 : w.heap[g]? = some (.cells cs2 t2 (0, 0)) := h2
  rw [h3] at h4
  cases h4
  exact hne rfl
/-- An append whose equation is known, at a step of a region that draws its order. -/
theorem step_app {ops : Array Oper} {o : Oper} {a : Act} {w w' : World} {K : Act → World → Prop} {Q : Exit → Act → World → Prop} {E : Prop} (hgd : o.guard = none) (s x : Operand) (t : TypeId)
    (ho : o.op = .call { callee := .builtin .append, args := #[s, x], argTypes := #[t, t] }) (v sl v' : Value) (hs : a.eval s = v) (hx : a.eval x = sl)
    (hr : (Builtin.append_ #[t, t] o.type #[v, sl]).run Try.prog w = .ok v' w') (h : K (a.put o.dst v') w') :
    if Region.wanted o (yielded ops a.tmps) = true then Oper.wp Try.prog o a w K Q else E := by
  have hw : Region.wanted o (yielded ops a.tmps) = true := by simp [Region.wanted, hgd]
  rw [if_pos hw]
  unfold Oper.wp execOp
  simp only [ho, resolve, invoke, builtin, Sem.run_bind, Sem.run_pure, Result.andThen_ok, List.map_toArray, List.map_cons, List.map_nil, hs, hx, hr]
  exact h
/-- What comes up where a slice and one element more are appended to a new slice; c1, c2: the first, the second append has come up. -/
def Ga (val : List Value) (b0 a1 y a2 z E size n : Nat) (xs : List Value) (cy : Array Value) (n0 : Nat) (c1 c2 : Bool) (i : Nat) (v : Value) (w : World) : Prop :=
  (i = b0 → c1 = false → ∃ g, v = .slice (some ⟨g, 0, none⟩) 0 0 ∧ n0 ≤ g ∧ BoxN w g #[] E) ∧
  (i = a1 → c2 = false → w.ownsRow n0 E size v n xs) ∧
  (i = y → c2 = false → ∃ g, v = .slice (some ⟨g, 0, none⟩) 1 1 ∧ BoxN w g cy E) ∧
  (i = a2 ∨ i = z → w.ownsRow n0 E size v (n + 1) (xs ++ cy.toList)) ∧
  ((i ≠ b0 ∧ i ≠ a1 ∧ i ≠ y ∧ i ≠ a2 ∧ i ≠ z) → v = val.getD i undef)
theorem Ga.step {val : List Value} {b0 a1 y a2 z E size n : Nat} {xs : List Value} {cy : Array Value} {n0 : Nat} {c1 c2 : Bool} {w w1 : World} (hb : Below w.heap.size w w1) : ∀ i v, Ga val b0 a1 y a2 z E size n xs cy n0 c1 c2 i v w → Ga val b0 a1 y a2 z E size n xs cy n0 c1 c2 i v w1 := fun _ _ h =>
  ⟨fun e d => (h.1 e d).imp fun _ q => ⟨q.1, q.2.1, q.2.2.step hb⟩, fun e d => row_step (h.2.1 e d) hb, fun e d => (h.2.2.1 e d).imp fun _ q => ⟨q.1, q.2.step hb⟩, fun e => row_step (h.2.2.2.1 e) hb, h.2.2.2.2⟩
/-- The region's invariant. -/
def NA (lit : (Nat → Value) → Act) (p q r : Nat) (G : Bool → Bool → Nat → Value → World → Prop) (B : World → Prop) (bf : Nat → Bool) (ac : Act) (wv : World) : Prop :=
  ∃ vs, ac = lit vs ∧ (bf q = true → bf p = true) ∧ (bf r = true → bf q = true) ∧ B wv ∧ ∀ i, bf i = true → G (bf p) (bf q) i (vs i) wv
theorem NA.next {lit : (Nat → Value) → Act} {p q r : Nat} {G : Bool → Bool → Nat → Value → World → Prop} {B : World → Prop} {bf : Nat → Bool} {wv : World} {vs : Nat → Value} (i : Nat) (hq : i = q → bf p = true) (hr : i = r → bf q = true) {c1 c2 : Bool} (e1 : up bf i p = c1) (e2 : up bf i q = c2) {x : Value} {w' : World} {ac' : Act} (hac : ac' = lit (upv vs i x))
    (k : (bf q = true → bf p = true) ∧ (bf r = true → bf q = true) ∧ ∀ i, bf i = true → G (bf p) (bf q) i (vs i) wv) (hb : B w') (hs : ∀ k, k ≠ i → bf k = true → G (bf p) (bf q) k (vs k) wv → G c1 c2 k (vs k) w') (hx : G c1 c2 i x w') : NA lit p q r G B (up bf i) ac' w' := by
  obtain ⟨k1, k2, k3⟩ := k
  have hk : ∀ j, bf j = true → up bf i j = true := fun j hj => by unfold up; rw [hj]; simp
  refine ⟨upv vs i x, hac, fun h => ?_, fun h => ?_, hb, fun j hu => ?_⟩
  · by_cases e : q = i
    · exact hk _ (hq e.symm)
    · rw [up_ne _ _ _ e] at h; exact hk _ (k1 h)
  · by_cases e : r = i
    · exact hk _ (hr e.symm)
    · rw [up_ne _ _ _ e] at h; exact hk _ (k2 h)
  · rw [e1, e2]
    by_cases e : j = i
    · subst e; rw [upv_same]; exact hx
    · rw [up_ne _ _ _ e] at hu; rw [upv_ne _ _ _ _ e]; exact hs _ e hu (k3 j hu)
theorem empty_row {w : World} {base g e size : Nat} (h : BoxN w g #[] e) (hb : base ≤ g) : w.ownsRow base e size (.slice (some ⟨g, 0, none⟩) 0 0) 0 [] := ⟨by simp, .inr ⟨g, 0, _, rfl, hb, h, by omega, by unfold maxLen; omega, by simp, by simp⟩⟩
theorem news_of {w : World} {g e : Nat} {cy : Array Value} (h : BoxN w g cy e) : ∀ ad, some (⟨g, 0, none⟩ : Addr) = some ad → ∀ j u, cy.toList[j]? = some u → w.cell? (ad.add j) = some u := fun ad ha j u hu => by
  cases ha
  rw [Go.WideShapes.add_plain, Nat.zero_add, h.cell, ← Array.getElem?_toList]
  exact hu
theorem info40 : (Try.prog.info? 40).map (fun i => (i.zero, i.size, i.bytes)) = some (some (.agg #[.int .i64 0, .int .i64 0]), 2, 16) := by kernel_rfl
theorem wcs_len (l : List (Int × Int)) : (wcs l).length = l.length * 2 := by
  induction l with
  | nil => rfl
  | cons x l ih => simp [wcs] at ih ⊢; omega
theorem wcs_app (a b : List (Int × Int)) : wcs (a ++ b) = wcs a ++ wcs b := by simp [wcs]
theorem wcs_one (l : List (Int × Int)) : ∀ u ∈ wcs l, u.oneCell' = true := by
  intro u hu
  unfold wcs at hu
  rw [List.mem_flatMap] at hu
  obtain ⟨x, -, hx⟩ := hu
  simp only [List.mem_cons, List.not_mem_nil, or_false] at hx
  rcases hx with rfl | rfl <;> rfl
theorem wcells {w : World} {a : Option Addr} {n c : Nat} {l : List (Int × Int)} (h : WinsAt w (.slice a n c) l) (hn : l.length = n) : (wcs l).length = n * 2 ∧ (∀ ad, a = some ad → ∀ j u, (wcs l)[j]? = some u → w.cell? (ad.add j) = some u) ∧ (a = none → n = 0) := by
  obtain ⟨a', cap', he, -, -, hc⟩ := h
  simp only [Value.slice.injEq] at he
  obtain ⟨rfl, -, rfl⟩ := he
  refine ⟨by rw [wcs_len, hn], fun ad ha j u hu => ?_, fun ha => ?_⟩
  · have hj : j < (wcs l).length := (List.getElem?_eq_some_iff.1 hu).1
    rw [wcs_len] at hj
    have hi : j / 2 < l.length := by omega
    have hg := wcs_get l (j / 2) _ (win_get (d := (0, 0)) hi) (j % 2) (by omega)
    rw [show j / 2 * 2 + j % 2 = j by omega, hu] at hg
    obtain ⟨b', off', ha', hx⟩ := hc (by intro e; rw [e] at hi; simp at hi)
    rw [ha] at ha'
    obtain rfl : ad = ⟨b', off', none⟩ := by simpa using ha'
    obtain ⟨c0, c1⟩ := hx (j / 2) _ (win_get (d := (0, 0)) hi)
    rw [Go.WideShapes.add_plain]
    rcases (show j % 2 = 0 ∨ j % 2 = 1 by omega) with h2 | h2
    · rw [h2] at hg
      rw [show off' + j = off' + j / 2 * 2 by omega, c0]
      simpa using hg.symm
    · rw [h2] at hg
      rw [show off' + j = off' + j / 2 * 2 + 1 by omega, c1]
      simpa using hg.symm
  · cases l with
    | nil => simp at hn; exact hn.symm
    | cons x l => obtain ⟨b, off, e, -⟩ := hc (by simp); rw [ha] at e; cases e
/-- Windows in a block of one's own. -/
def RowW (n0 : Nat) (v : Value) (l : List (Int × Int)) (w : World) : Prop := w.ownsRow n0 40 2 v l.length (wcs l)
theorem RowW.step {n0 : Nat} {v : Value} {l : List (Int × Int)} {w w' : World} (h : RowW n0 v l w) (hb : Below w.heap.size w w') : RowW n0 v l w' := row_step h hb
theorem RowW.nil (n0 : Nat) (w : World) : RowW n0 (.slice none 0 0) [] w := World.ownsRow_nil _ _ _ _
theorem RowW.at {base : Nat} {v : Value} {l : List (Int × Int)} {w : World} (h : RowW base v l w) : WinsAt w v l := by
  unfold RowW at h
  have hc := fun g (hg : v.ownBlock = some g) => h.cells hg
  rcases h.2 with ⟨rfl, h0⟩ | ⟨g, cap, cur, rfl, h1, h2, h3, h4, -⟩
  · have : l = [] := List.length_eq_zero_iff.1 h0
    subst this
    exact wins_nil _
  · refine ⟨some ⟨g, 0, none⟩, cap, rfl, h3, by omega, fun _ => ⟨g, 0, rfl, fun i x hi => ?_⟩⟩
    have hj := fun j (hj : j < 2) u (hu : [Value.int .i64 x.1, .int .i64 x.2][j]? = some u) => hc g rfl (i * 2 + j) u ((wcs_get l i x hi j hj).trans hu)
    simp only [Go.WideShapes.add_plain] at hj
    exact ⟨hj 0 (by omega) _ rfl, hj 1 (by omega) _ rfl⟩
theorem Qm_app (l k : List (Int × Int)) (m : Int) : Qm (l ++ k) m = (Qm l m || Qm k m) := by unfold Qm Qx; rw [List.any_append]
theorem Qm_rev (l : List (Int × Int)) (m : Int) : Qm l.reverse m = Qm l m := by unfold Qm Qx; rw [List.any_reverse]
theorem okL_app {l k : List (Int × Int)} : okL (l ++ k) = (decide (l.length + k.length ≤ 8) && (l.all okW && k.all okW)) := by unfold okL; rw [List.length_append, List.all_append]
theorem okL_rev (l : List (Int × Int)) : okL l.reverse = okL l := by unfold okL; rw [List.length_reverse, List.all_reverse]
/-- What law HoursWindows says. -/
theorem win_facts {l : List (Int × Int)} {p : Int × Int} {m : Int} (h : fine l m = true) (h' : fine (l ++ [p]) m = true) : l.length ≤ 7 ∧ qui l.reverse m = qui l m ∧ qui (l ++ [p]) m = (qui l m || qui [p] m) ∧ ∀ x, x ∈ l → qui (l.reverse ++ [x]) m = qui l m := by
  have hf := fine_iff.1 h
  have hf' := (fine_iff.1 h').1
  have hr := inR_of (m := m) (by omega) (by omega)
  have h9 := hf'
  rw [okL_app, Bool.and_eq_true, Bool.and_eq_true, decide_eq_true_iff] at h9
  obtain ⟨h7, ha, hp⟩ := h9
  have h7' : l.length ≤ 7 := by simpa using h7
  have hpo : okL [p] = true := by unfold okL; rw [hp]; rfl
  refine ⟨h7', ?_, ?_, fun x hx => ?_⟩
  · unfold qui; rw [okL_rev, Qm_rev]
  · unfold qui; rw [hf', hf.1, hpo, hr, Qm_app]; rfl
  · have hxo : okL (l.reverse ++ [x]) = true := by
      rw [okL_app, List.length_reverse, List.all_reverse, ha, decide_eq_true (by simp; omega)]
      rw [List.all_eq_true] at ha
      simp [ha x hx]
    unfold qui
    rw [hxo, hf.1, hr, Qm_app, Qm_rev]
    have : Qm [x] m = true → Qm l m = true := by
      unfold Qm Qx
      intro hq
      rw [List.any_eq_true]
      exact ⟨x, hx, by simpa using hq⟩
    revert this
    cases Qm l m <;> cases Qm [x] m <;> simp
theorem wpList_app_g {ops : Array Oper} {rest : List Oper} {o : Oper} {a : Act} {w w' : World} {Q : Exit → Act → World → Prop} (s x : Operand) (t : TypeId)
    (ho : o.op = .call { callee := .builtin .append, args := #[s, x], argTypes := #[t, t] }) (hw : Region.wanted o (yielded ops a.tmps) = true) (v sl v' : Value) (hs : a.eval s = v) (hx : a.eval x = sl)
    (hr : (Builtin.append_ #[t, t] o.type #[v, sl]).run Try.prog w = .ok v' w') (h : wpList Try.prog ops Q rest (a.put o.dst v') w') : wpList Try.prog ops Q (o :: rest) a w := by
  refine wpList_step fun K hK => ?_
  rw [if_pos hw]
  unfold Oper.wp execOp
  simp only [ho, resolve, invoke, builtin, Sem.run_bind, Sem.run_pure, Result.andThen_ok, List.map_toArray, List.map_cons, List.map_nil, hs, hx, hr]
  exact hK _ _ h
theorem drop_rev {l : List (Int × Int)} {k : Nat} (h : k < l.length) : (l.drop k).reverse = (l.drop (k + 1)).reverse ++ [l.getD k (0, 0)] := by
  rw [List.drop_eq_getElem_cons h, List.reverse_cons]; simp [h]
/-- One window more, at the end of a row. -/
theorem app_one {w : World} {n0 g : Nat} {v : Value} {l : List (Int × Int)} {f t : Int} (hr : RowW n0 v l w) (hb : BoxN w g #[.int .i64 f, .int .i64 t] 40) (hl : l.length ≤ 1000) (hn : n0 ≤ w.heap.size) :
    ∃ v' w', (Builtin.append_ #[22, 22] 22 #[v, .slice (some ⟨g, 0, none⟩) 1 1]).run Try.prog w = .ok v' w' ∧ RowW n0 v' (l ++ [(f, t)]) w' ∧ w.grownBy w' v.ownBlock := by
  obtain ⟨i0, hi, hz0, hz1, hz2⟩ := info_parts info40
  obtain ⟨v', w', h1, h2, h3⟩ := run_app_gen (ty := 22) Try.underlying22 hi hz0 hz1 hz2 rfl (by decide) w n0 l.length v (wcs l) hr (some ⟨g, 0, none⟩) 1 1 (#[.int .i64 f, .int .i64 t]).toList (by simp) (news_of hb) (fun h => by cases h) (by simp [Value.oneCell']) (by unfold maxLen; omega) (by omega) hn
  refine ⟨v', w', h1, ?_, h3⟩
  unfold RowW
  rw [List.length_append, wcs_app]
  exact h2
end Go.Proofs.Ytmejpmnipejpiaa
