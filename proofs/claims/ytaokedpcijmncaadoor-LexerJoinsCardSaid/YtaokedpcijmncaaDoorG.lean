/- The contract of 'Lex'. -/
import Derived.Test.YtaokedpcijmncaaDoorF
namespace Go.Proofs.YtaokedpcijmncaaDoor
open Go.RowKit Go.Maps Go.Shelf
attribute [local go_sem] Oper.semAt_some

theorem run_append_spare {P : Program} (w : World) (base : Nat) (t ty e : TypeId) (i : TypeInfo) (z : Value) (size bytes : Nat) (ht : P.underlying t = some (.slice e)) (hi : P.info? e = some i) (hz : i.zero = some z)
    (hsize : i.size = size) (hby : i.bytes = bytes) (hzs : z.cells.size = size) (hsz : 0 < size)
    (v : Value) (n : Nat) (xs : List Value) (hown : w.ownsRow base e size v n xs) (hnil : n = 0 → v = .slice none 0 0)
    (a : Addr) (m c : Nat) (news : List Value) (hl : news.length = m * size) (hnews : ∀ j u, news[j]? = some u → w.cell? (a.add j) = some u) (h1 : ∀ u ∈ news, u.oneCell' = true) (hm : 0 < m)
    (h63 : n + m ≤ maxLen) (hbytes : (n + m) * bytes ≤ 140737488355328) (hbase : base ≤ w.heap.size) :
    ∃ v' w', (Builtin.append_ #[t, t] ty #[v, .slice (some a) m c]).run P w = .ok v' w' ∧ w'.ownsRow base e size v' (n + m) (xs ++ news) ∧ w.grownBy w' v.ownBlock ∧
      (∀ (k : Nat) (cs : Array Value) (fr : Nat × Nat), w.heap[k]? = some (.cells cs e fr) → cs.size = size → w'.heap[k]? = some (.cells cs e fr)) := by
  obtain ⟨v', w', hr, r1, r2, _⟩ := run_append_own (P := P) w base t ty e i z size bytes ht hi hz hsize hby hzs hsz v n xs hown a m c news hl hnews h1 h63 hbytes hbase
  refine ⟨v', w', hr, r1, r2, fun k cs fr hk hcs => ?_⟩
  have hlt := (Array.getElem?_eq_some_iff.1 hk).1
  by_cases hne : v.ownBlock = some k
  · rcases hown.2 with ⟨rfl, _⟩ | ⟨g, cap, cur, rfl, hbg, hg, hnc, hcm, hcur, htake⟩
    · simp [Value.ownBlock] at hne
    · obtain rfl : g = k := by simpa [Value.ownBlock] using hne
      have hn1 : n ≠ 0 := fun h => by have := hnil h; simp at this
      by_cases hroom : n + m ≤ cap
      · rw [hg] at hk
        simp only [Option.some.injEq, Obj.cells.injEq] at hk
        obtain ⟨rfl, _⟩ := hk
        rw [hcur] at hcs
        have h2 : 2 * size ≤ cap * size := Nat.mul_le_mul_right _ (by omega)
        omega
      · have holds : ∀ j u, xs[j]? = some u → w.cell? ((⟨g, 0, none⟩ : Addr).add j) = some u := hown.cells (g := g) rfl
        have hr2 := run_append_grow (P := P) w t ty e i z ht hi hz ⟨g, 0, none⟩ n cap xs (by rw [hsize]; exact hown.1) holds a m c news (by rw [hsize]; exact hl) hnews (by omega) (by unfold maxLen at h63; omega) (growslice_fits (by omega) (by rw [hby]; exact hbytes))
        rw [hr] at hr2
        injection hr2 with _ hw
        rw [hw]
        exact (Below.heap_alloc w.drew _ g hlt).trans hk
  · exact (r2.block k hlt (fun e => hne e.symm)).trans hk

theorem wpListIn_append_spare {F : Fence} {n : Nat} {P : Program} (w : World) {ops : Array Oper} {rest : List Oper} {o : Oper} {a : Act} {Q : Exit → Act → World → Prop}
    (hg : o.guard = none) (s x : Operand) (t : TypeId) (hop : o.op = Op.call { callee := Callee.builtin Builtin.append, args := #[s, x], argTypes := #[t, t] })
    (base : Nat) (e : TypeId) (i : TypeInfo) (z : Value) (size bytes : Nat) (h1 : P.underlying t = some (.slice e)) (h2 : P.info? e = some i) (h3 : i.zero = some z) (h4 : i.size = size) (h5 : i.bytes = bytes) (h6 : z.cells.size = size) (h7 : 0 < size)
    (v : Value) (k : Nat) (xs : List Value) (hs : a.eval s = v) (hown : w.ownsRow base e size v k xs) (hnil : k = 0 → v = .slice none 0 0) (ad : Addr) (m c : Nat) (news : List Value) (hx : a.eval x = .slice (some ad) m c) (hn : news.length = m * size)
    (hc : ∀ j u, news[j]? = some u → w.cell? (ad.add j) = some u) (h1c : ∀ u ∈ news, u.oneCell' = true) (hm : 0 < m) (b1 : k + m ≤ maxLen) (b2 : (k + m) * bytes ≤ 140737488355328) (b3 : base ≤ w.heap.size)
    (hK : ∀ v' w', w'.ownsRow base e size v' (k + m) (xs ++ news) → w.grownBy w' v.ownBlock → (∀ (k : Nat) (cs : Array Value) (fr : Nat × Nat), w.heap[k]? = some (.cells cs e fr) → cs.size = size → w'.heap[k]? = some (.cells cs e fr)) → wpListIn F n P ops Q rest (a.put o.dst v') w') :
    wpListIn F n P ops Q (o :: rest) a w := by
  refine wpListIn_plain hg fun K hK' => ?_
  obtain ⟨v', w', hrun, r1, r2, r3⟩ := run_append_spare (P := P) w base t o.type e i z size bytes h1 h2 h3 h4 h5 h6 h7 v k xs hown hnil ad m c news hn hc h1c hm b1 b2 b3
  unfold Oper.wpIn
  refine ⟨?_, ?_⟩
  · simp [Oper.about, hop, resolve, Target.leads, Sem.run_pure]
  · rw [Oper.semAt_plain F _ _ (by rw [hop]; intro c hc'; cases hc')]
    simp [execOp, hop, resolve, invoke, builtin, hs, hx, hrun, Result.andThen]
    exact hK' _ _ (hK v' w' r1 r2 r3)

theorem info29 : (Tryd.prog.info? 29).map (fun i => (i.zero, i.size, i.bytes)) = some (some (.agg #[.int .i64 0, .string ⟨#[]⟩, .int .i64 0, .int .i64 0]), 4, 40) := by kernel_rfl

/-- The items of a text without an error, and not too many. -/
def Good (pre : List Item) : Prop := (∀ x ∈ pre, x.err = 0) ∧ pre.length ≤ 6000
/-- The cells of the tokens of a list. -/
def tcells (pre : List Item) : List Value := pre.flatMap fun x => [.int .i64 x.k, .string x.t, .int .i64 x.v, .int .i64 x.at_]
/-- A block of four cells holds a token. -/
def Tok4 (W : World) (B : Nat) (x : Item) : Prop := W.heap[B]? = some (.cells #[.int .i64 x.k, .string x.t, .int .i64 x.v, .int .i64 x.at_] 29 (0, 0))
theorem Tok4.cell {W : World} {B : Nat} {x : Item} (h : Tok4 W B x) (j : Nat) : W.cell? ⟨B, j, none⟩ = #[Value.int .i64 x.k, .string x.t, .int .i64 x.v, .int .i64 x.at_][j]? := by simp [World.cell?, show W.heap[B]? = _ from h]
theorem Tok4.kept {W W' : World} {row : Option Nat} {B : Nat} {x : Item} (h : Tok4 W B x) (hg : W.grownBy W' row) (hr : ∀ r, row = some r → ∃ o : Obj, W.heap[r]? = some o ∧ o.isCells = false) : Tok4 W' B x :=
  (hg.block B (Array.getElem?_eq_some_iff.1 h).1 (fun e => by obtain ⟨o, ho, hc⟩ := hr B e.symm; rw [show W.heap[B]? = _ from h] at ho; cases ho; cases hc)).trans h
/-- What an error is at an item behind n others. -/
def errOf (n : Nat) (x : Item) : Int := if n = 6000 then 2 else x.err
/-- The variables while tokens come. -/
def LI (s : ByteArray) (n0 : Nat) (w : World) (pre : List Item) (W : World) : Prop :=
  (((((∃ v, Boxed W (n0 + 3) 23 v ∧ W.ownsRow n0 29 4 v pre.length (tcells pre) ∧ ((pre.length = 0 → v = .slice none 0 0) ∧ Good pre)) ∧ Boxed W n0 23 (.slice none 0 0)) ∧ Boxed W (n0 + 1) 24 (.int .i64 0)) ∧ Boxed W (n0 + 2) 3 (.int .i64 0)) ∧ Boxed W (n0 + 4) 9 (.string s)) ∧ Below n0 w W
/-- The variables behind an error. -/
def LX (n0 : Nat) (w : World) (c : Code) (pre : List Item) (W : World) : Prop :=
  (c = .ret ∧ ∃ ini x, pre = ini ++ [x] ∧ Good ini ∧ errOf ini.length x ≠ 0 ∧ Boxed W n0 23 (.slice none 0 0) ∧ Boxed W (n0 + 1) 24 (.int .i64 (errOf ini.length x)) ∧ Boxed W (n0 + 2) 3 (.int .i64 x.at_)) ∧ Below n0 w W
theorem LI_own (s : ByteArray) (n0 B : Nat) (w : World) (h0 : n0 ≤ w.heap.size) (hB : n0 ≤ B) : OwnFrom B (LI s n0 w) :=
  OwnFrom.and (OwnFrom.and (OwnFrom.and (OwnFrom.and (OwnFrom.and (Own.from (holdsRow_own n0 (n0 + 3) 23 29 4 (fun pre : List Item => pre.length) (fun pre => tcells pre) (fun pre v => (pre.length = 0 → v = .slice none 0 0) ∧ Good pre)) _) (Own.from (boxed_own _ _ _) _)) (Own.from (boxed_own _ _ _) _)) (Own.from (boxed_own _ _ _) _)) (Own.from (boxed_own _ _ _) _)) (ownFrom_below h0 hB)
theorem LX_own (n0 B : Nat) (w : World) (h0 : n0 ≤ w.heap.size) (hB : n0 ≤ B) (c : Code) : OwnFrom B (LX n0 w c) :=
  OwnFrom.and (Own.from (fun s X Y row hs hg hr => by
    obtain ⟨hc, ini, x, e1, e2, e3, b1, b2, b3⟩ := hs
    exact ⟨hc, ini, x, e1, e2, e3, boxed_own _ _ (fun _ : Unit => _) () X Y row b1 hg hr, boxed_own _ _ (fun _ : Unit => _) () X Y row b2 hg hr, boxed_own _ _ (fun _ : Unit => _) () X Y row b3 hg hr⟩) _) (ownFrom_below h0 hB)

theorem LX_mk {n0 B : Nat} {w W : World} {pre : List Item} {x : Item} {e : Int} (hg : Good pre) (he : errOf pre.length x = e) (hne : e ≠ 0) (v1 v2 : Value)
    (c0 : Boxed W n0 23 (.slice none 0 0)) (c1 : Boxed W (n0 + 1) 24 v1) (c2 : Boxed W (n0 + 1 + 1) 3 v2) (hB : Below n0 w W) :
    KeepsFrom B W ((((W.setCell ⟨n0, 0, none⟩ (.slice none 0 0)).setCell ⟨n0 + 1, 0, none⟩ (.int .i64 e)).setCell ⟨n0 + 1 + 1, 0, none⟩ (.int .i64 x.at_)).drew) ∧
    LX n0 w .ret (pre ++ [x]) ((((W.setCell ⟨n0, 0, none⟩ (.slice none 0 0)).setCell ⟨n0 + 1, 0, none⟩ (.int .i64 e)).setCell ⟨n0 + 1 + 1, 0, none⟩ (.int .i64 x.at_)).drew) := by
  subst he
  refine ⟨((((KeepsOthers.setCell _ _ _).trans (KeepsOthers.setCell _ _ _)).trans (KeepsOthers.setCell _ _ _)).trans (KeepsOthers.drew _)).from _, ⟨rfl, pre, x, rfl, hg, hne, ?_, ?_, ?_⟩, ?_⟩
  · exact ((c0.set _).other (by omega) _).other (by omega) _
  · exact ((c1.other (by omega) _).set _).other (by omega) _
  · exact ((c2.other (by omega) _).other (by omega) _).set _
  · exact (((hB.setCell (p := ⟨n0, 0, none⟩) (Nat.le_refl _) _).setCell (p := ⟨n0 + 1, 0, none⟩) (by show n0 ≤ n0 + 1; omega) _).setCell (p := ⟨n0 + 1 + 1, 0, none⟩) (by show n0 ≤ n0 + 1 + 1; omega) _).drew
theorem tcells_snoc (pre : List Item) (x : Item) : tcells (pre ++ [x]) = tcells pre ++ [.int .i64 x.k, .string x.t, .int .i64 x.v, .int .i64 x.at_] := by simp [tcells]
theorem cell_four_new (W : World) (a b c d : Value) (T : TypeId) : ∀ j u, [a, b, c, d][j]? = some u → (W.alloc (.cells #[a, b, c, d] T)).cell? ((⟨W.heap.size, 0, none⟩ : Addr).add j) = some u := by
  intro j u hu
  have hadd : (⟨W.heap.size, 0, none⟩ : Addr).add j = ⟨W.heap.size, j, none⟩ := by unfold Addr.add; split <;> simp_all
  rw [hadd, World.cell?_alloc_new]
  simpa using hu
theorem LI_step {s : ByteArray} {n0 B : Nat} {w W w1 : World} {pre : List Item} {x : Item} {v v' : Value} {tmp : Obj}
    (hv : Boxed W (n0 + 3) 23 v) (hrow : W.ownsRow n0 29 4 v pre.length (tcells pre)) (hgood : Good pre) (hn : pre.length ≠ 6000) (he : x.err = 0)
    (c0 : Boxed W n0 23 (.slice none 0 0)) (c1 : Boxed W (n0 + 1) 24 (.int .i64 0)) (c2 : Boxed W (n0 + 2) 3 (.int .i64 0)) (c4 : Boxed W (n0 + 4) 9 (.string s)) (hB : Below n0 w W) (h0 : n0 ≤ w.heap.size)
    (hown' : w1.ownsRow n0 29 4 v' (pre.length + 1) (tcells pre ++ [.int .i64 x.k, .string x.t, .int .i64 x.v, .int .i64 x.at_])) (hgrow : (W.alloc tmp).grownBy w1 v.ownBlock)
    (hspare : ∀ (k : Nat) (cs : Array Value) (fr : Nat × Nat), (W.alloc tmp).heap[k]? = some (.cells cs 29 fr) → cs.size = 4 → w1.heap[k]? = some (.cells cs 29 fr)) :
    (Boxed w1 (n0 + 3) 23 v) ∧ KeepsFrom B W (w1.setCell ⟨n0 + 3, 0, none⟩ v') ∧ Keep n0 (n0 + 4) W (w1.setCell ⟨n0 + 3, 0, none⟩ v') ∧ LI s n0 w (pre ++ [x]) (w1.setCell ⟨n0 + 3, 0, none⟩ v') := by
  have hsW : n0 ≤ W.heap.size := Nat.le_trans h0 hB.size
  obtain ⟨hv1, hv2, hr2, hk2, hb2⟩ := hv.appended (by decide) hrow hsW (by omega) hown' hgrow
  have k0 := ((c0.alloc tmp).kept hgrow (c0.not_row (by decide) hrow)).other (B' := n0 + 3) (by omega) v'
  have k1 := ((c1.alloc tmp).kept hgrow (c1.not_row (by decide) hrow)).other (B' := n0 + 3) (by omega) v'
  have k2 := ((c2.alloc tmp).kept hgrow (c2.not_row (by decide) hrow)).other (B' := n0 + 3) (by omega) v'
  have k4 := ((c4.alloc tmp).kept hgrow (c4.not_row (by decide) hrow)).other (B' := n0 + 3) (by omega) v'
  refine ⟨hv1, hk2.from _, ⟨hb2, hk2.walks, ?_, ?_⟩, ⟨⟨⟨⟨⟨⟨v', hv2, ?_, ?_, ?_, ?_⟩, k0⟩, k1⟩, k2⟩, k4⟩, hB.trans hb2⟩⟩
  · exact ((Four.alloc W tmp).trans hspare).trans (Four.grown (grownBy_setCell' w1 (n0 + 3) v') (fun r e c fr hr => by
      cases e
      rw [show w1.heap[n0 + 3]? = _ from hv1] at hr
      simp at hr))
  · intro o ho _
    rw [show W.heap[n0 + 4]? = _ from c4] at ho
    cases ho
    exact k4
  · rw [tcells_snoc]; simpa using hr2
  · intro h; simp at h
  · intro y hy
    rcases List.mem_append.1 hy with h | h
    · exact hgood.1 y h
    · simp at h; rw [h]; exact he
  · have := hgood.2; simp; omega
/-- The first error among what is yielded, if any: too many tokens, or one of theirs. -/
def cut : Nat → List Item → Option (Int × Int)
  | _, [] => none
  | n, x :: l => if errOf n x = 0 then cut (n + 1) l else some (errOf n x, x.at_)
theorem cut_none : ∀ (n : Nat) (l : List Item), (∀ x ∈ l, x.err = 0) → n + l.length ≤ 6000 → cut n l = none
  | _, [], _, _ => rfl
  | n, x :: l, h, hl => by
    have hx := h x (by simp)
    simp only [List.length_cons] at hl
    rw [cut, if_pos (by unfold errOf; rw [if_neg (by omega)]; exact hx)]
    exact cut_none (n + 1) l (fun y hy => h y (by simp [hy])) (by omega)
theorem cut_some : ∀ (n : Nat) (ini : List Item) (x : Item) (l : List Item), (∀ y ∈ ini, y.err = 0) → n + ini.length ≤ 6000 → errOf (n + ini.length) x ≠ 0 → cut n (ini ++ x :: l) = some (errOf (n + ini.length) x, x.at_)
  | n, [], x, l, _, _, he => by rw [List.nil_append, cut, if_neg (by simpa using he)]; rfl
  | n, y :: ini, x, l, h, hl, he => by
    have hy := h y (by simp)
    simp only [List.length_cons] at hl he ⊢
    rw [List.cons_append, cut, if_pos (by unfold errOf; rw [if_neg (by omega)]; exact hy)]
    rw [show n + (ini.length + 1) = (n + 1) + ini.length by omega] at he ⊢
    exact cut_some (n + 1) ini x l (fun z hz => h z (by simp [hz])) (by omega) he
/-- What 'Lex' leaves. -/
def LexPost (l : List Item) (w : World) (e : Ending) (W' : World) : Prop :=
  ((cut 0 l = none ∧ ∃ v, e = .returned (.tuple #[v, .int .i64 0, .int .i64 (-1)]) ∧ W'.ownsRow w.heap.size 29 4 v l.length (tcells l)) ∨
   (∃ er off, cut 0 l = some (er, off) ∧ e = .returned (.tuple #[.slice none 0 0, .int .i64 er, .int .i64 off]))) ∧ Below w.heap.size w W'
theorem boxed_putObj {W : World} {B : Nat} {t : TypeId} {v : Value} (h : Boxed W B t v) {D : Nat} {o : Obj} (o' : Obj) (hD : W.heap[D]? = some o) (ho : o.isCells = false) : Boxed (W.putObj D o') B t v :=
  h.kept (grownBy_putObj' W D o') (fun e => by cases e; rw [show W.heap[B]? = _ from h] at hD; cases hD; cases ho)
theorem done_mk {n0 D : Nat} {w W : World} {v : Value} {k : Nat} {xs : List Value} {u0 u1 u2 : Value} (v1 v2 : Value) (hrow : W.ownsRow n0 29 4 v k xs)
    (c0 : Boxed W n0 23 u0) (c1 : Boxed W (n0 + 1) 24 u1) (c2 : Boxed W (n0 + 1 + 1) 3 u2) (hB : Below n0 w W) (hK : W.heap[D]? = some (.deferred (some []))) (hD : n0 ≤ D) (hn : n0 ≤ w.heap.size) :
    ∃ W3, ((W.setCell ⟨n0, 0, none⟩ v).setCell ⟨n0 + 1, 0, none⟩ v1).setCell ⟨n0 + 1 + 1, 0, none⟩ v2 = W3 ∧ W3.heap[D]? = some (.deferred (some [])) ∧ (W3.putObj D (.deferred none)).cell? ⟨n0, 0, none⟩ = some v ∧ (W3.putObj D (.deferred none)).cell? ⟨n0 + 1, 0, none⟩ = some v1 ∧
      (W3.putObj D (.deferred none)).cell? ⟨n0 + 1 + 1, 0, none⟩ = some v2 ∧ (W3.putObj D (.deferred none)).ownsRow n0 29 4 v k xs ∧ Below n0 w (W3.putObj D (.deferred none)) := by
  refine ⟨_, rfl, ?_⟩
  have hk3 : (((W.setCell ⟨n0, 0, none⟩ v).setCell ⟨n0 + 1, 0, none⟩ v1).setCell ⟨n0 + 1 + 1, 0, none⟩ v2).heap[D]? = some (.deferred (some [])) :=
    (((KeepsOthers.setCell W ⟨n0, 0, none⟩ v).trans (KeepsOthers.setCell _ ⟨n0 + 1, 0, none⟩ v1)).trans (KeepsOthers.setCell _ ⟨n0 + 1 + 1, 0, none⟩ v2)).same D _ hK rfl
  have a1 := c0.set v
  have r1 : (W.setCell ⟨n0, 0, none⟩ v).ownsRow n0 29 4 v k xs := hrow.kept (grownBy_setCell' W n0 v) (.inr (c0.not_row (by decide) hrow).symm)
  have b1 := c1.other (B' := n0) (by omega) v
  have d1 := c2.other (B' := n0) (by omega) v
  have a2 := a1.other (B' := n0 + 1) (by omega) v1
  have r2 : ((W.setCell ⟨n0, 0, none⟩ v).setCell ⟨n0 + 1, 0, none⟩ v1).ownsRow n0 29 4 v k xs := r1.kept (grownBy_setCell' _ (n0 + 1) v1) (.inr (b1.not_row (by decide) r1).symm)
  have b2 := b1.set v1
  have d2 := d1.other (B' := n0 + 1) (by omega) v1
  have a3 := a2.other (B' := n0 + 1 + 1) (by omega) v2
  have r3 : (((W.setCell ⟨n0, 0, none⟩ v).setCell ⟨n0 + 1, 0, none⟩ v1).setCell ⟨n0 + 1 + 1, 0, none⟩ v2).ownsRow n0 29 4 v k xs := r2.kept (grownBy_setCell' _ (n0 + 1 + 1) v2) (.inr (d2.not_row (by decide) r2).symm)
  have b3 := b2.other (B' := n0 + 1 + 1) (by omega) v2
  have d3 := d2.set v2
  refine ⟨hk3, (boxed_putObj a3 _ hk3 rfl).cell, (boxed_putObj b3 _ hk3 rfl).cell, (boxed_putObj d3 _ hk3 rfl).cell, ownsRow_putObj r3 _ hk3 rfl, ?_⟩
  refine (((hB.setCell (p := ⟨n0, 0, none⟩) (Nat.le_refl _) _).setCell (p := ⟨n0 + 1, 0, none⟩) (by show n0 ≤ n0 + 1; omega) _).setCell (p := ⟨n0 + 1 + 1, 0, none⟩) (by show n0 ≤ n0 + 1 + 1; omega) _).grown (grownBy_putObj' _ D _) ?_ (fun j e => by cases e; exact hD)
  have := hB.size
  simp; omega
theorem stop_mk {n0 D : Nat} {w W : World} {v0 v1 v2 : Value}
    (c0 : Boxed W n0 23 v0) (c1 : Boxed W (n0 + 1) 24 v1) (c2 : Boxed W (n0 + 1 + 1) 3 v2) (hB : Below n0 w W) (hK : W.heap[D]? = some (.deferred (some []))) (hD : n0 ≤ D) (hn : n0 ≤ w.heap.size) :
    (W.putObj D (.deferred none)).cell? ⟨n0, 0, none⟩ = some v0 ∧ (W.putObj D (.deferred none)).cell? ⟨n0 + 1, 0, none⟩ = some v1 ∧ (W.putObj D (.deferred none)).cell? ⟨n0 + 1 + 1, 0, none⟩ = some v2 ∧ Below n0 w (W.putObj D (.deferred none)) :=
  ⟨(boxed_putObj c0 _ hK rfl).cell, (boxed_putObj c1 _ hK rfl).cell, (boxed_putObj c2 _ hK rfl).cell, hB.grown (grownBy_putObj' _ D _) (Nat.le_trans hn hB.size) (fun j e => by cases e; exact hD)⟩
theorem row_slice {W : World} {base : Nat} {e : TypeId} {size : Nat} {v : Value} {k : Nat} {xs : List Value} (h : W.ownsRow base e size v k xs) : ∃ a cap, v = .slice a k cap := by
  rcases h.2 with ⟨rfl, rfl⟩ | ⟨g, cap, _, rfl, _⟩
  · exact ⟨none, 0, rfl⟩
  · exact ⟨_, cap, rfl⟩
set_option maxRecDepth 100000 in
set_option maxHeartbeats 4000000 in
theorem lex_in (s : ByteArray) (w : World) (hs : s.size ≤ 20000) (hT : Tab w) :
    CallsIn Fence.wide 9 Tryd.prog 10 #[.string s] w fun e W' => LexPost (its s (gap s 0)) w e W' := by
  have hpos := hT.pos
  have HT := Lib.hid hT
  clear hT
  obtain ⟨i0, hi, hz0, hz1, hz2⟩ := info_parts info29
  have hdec : decide (20000 < (s.size : Int)) = false := by simp; omega
  refine callsIn_of_wp_marks Tryd.func10 rfl trivial ?_ rfl
  simp only [Tryd.ntmps10, List.size_toArray, List.length_cons, List.length_nil, Nat.reduceAdd, Nat.reduceSub, Array.replicate_succ, Array.replicate_zero, List.push_toArray, List.append_toArray, List.nil_append, List.cons_append]
  gi_wp2_with (refine ⟨trivial, ?_⟩; gi_at_call 17; refine (callsIn_wide.2 (tokens_any s _)).mono ?_; rintro e w' ⟨rfl, rfl⟩)
  have b0 := ((((Boxed.new w 23 (.slice none 0 0)).alloc (.cells #[.int .i64 0] 24)).alloc (.cells #[.int .i64 0] 3)).alloc (.cells #[.slice none 0 0] 23)).alloc (.cells #[.string s] 9)
  have b1 := (((Boxed.new (w.alloc (.cells #[.slice none 0 0] 23)) 24 (.int .i64 0)).alloc (.cells #[.int .i64 0] 3)).alloc (.cells #[.slice none 0 0] 23)).alloc (.cells #[.string s] 9)
  have b2 := ((Boxed.new ((w.alloc (.cells #[.slice none 0 0] 23)).alloc (.cells #[.int .i64 0] 24)) 3 (.int .i64 0)).alloc (.cells #[.slice none 0 0] 23)).alloc (.cells #[.string s] 9)
  have b3 := (Boxed.new (((w.alloc (.cells #[.slice none 0 0] 23)).alloc (.cells #[.int .i64 0] 24)).alloc (.cells #[.int .i64 0] 3)) 23 (.slice none 0 0)).alloc (.cells #[.string s] 9)
  have b4 := Boxed.new ((((w.alloc (.cells #[.slice none 0 0] 23)).alloc (.cells #[.int .i64 0] 24)).alloc (.cells #[.int .i64 0] 3)).alloc (.cells #[.slice none 0 0] 23)) 9 (.string s)
  simp only [World.size_alloc] at b1 b2 b3 b4
  have hB0 : Below w.heap.size w (((((w.alloc (.cells #[.slice none 0 0] 23)).alloc (.cells #[.int .i64 0] 24)).alloc (.cells #[.int .i64 0] 3)).alloc (.cells #[.slice none 0 0] 23)).alloc (.cells #[.string s] 9)) := (((((Below.refl _ w).alloc (Nat.le_refl _) _).alloc (by simp) _).alloc (by simp; omega) _).alloc (by simp; omega) _).alloc (by simp; omega) _
  have hsz : (((((w.alloc (.cells #[.slice none 0 0] 23)).alloc (.cells #[.int .i64 0] 24)).alloc (.cells #[.int .i64 0] 3)).alloc (.cells #[.slice none 0 0] 23)).alloc (.cells #[.string s] 9)).heap.size = w.heap.size + 5 := by simp
  obtain ⟨W0, hW0⟩ : ∃ W0, ((((w.alloc (.cells #[.slice none 0 0] 23)).alloc (.cells #[.int .i64 0] 24)).alloc (.cells #[.int .i64 0] 3)).alloc (.cells #[.slice none 0 0] 23)).alloc (.cells #[.string s] 9) = W0 := ⟨_, rfl⟩
  rw [hW0] at b0 b1 b2 b3 b4 hB0 hsz ⊢
  clear hW0
  refine wpIn_rangeFunc_ownH rfl (by omega) (gf := 18) (lb := #[.pointer (some ⟨w.heap.size + 1 + 1 + 1 + 1, 0, none⟩)]) rfl trivial (enters_of Tryd.func18 (by kernel_rfl) rfl)
    (iter_stops s 8 (by omega) (by omega) (w.heap.size + 1 + 1 + 1 + 1) w.heap.size W0 (by omega) hpos (HT.out.below hB0 hpos) b4) Keep.trans (fun W l o o' => Keep.putObj (by omega) W l o o') (Below.refl _ _) (fun _ => rfl)
    (LI s w.heap.size w) (LX w.heap.size w) (LI_own _ _ _ _ (Nat.le_refl _) (by omega)) (LX_own _ _ _ (Nat.le_refl _) (by omega))
    ⟨⟨⟨⟨⟨⟨_, b3, World.ownsRow_nil _ _ _ _, ⟨fun _ => rfl, by simp [Good]⟩⟩, b0⟩, b1⟩, b2⟩, b4⟩, hB0⟩
    (fun x a' W => ∃ Bx, w.heap.size + 3 < Bx ∧ Tok4 W Bx x ∧ a' = { tmps := #[.string s, undef, .pointer (some ⟨w.heap.size, 0, none⟩), .pointer (some ⟨w.heap.size + 1, 0, none⟩), .pointer (some ⟨w.heap.size + 1 + 1, 0, none⟩), .pointer (some ⟨w.heap.size + 1 + 1 + 1, 0, none⟩), .pointer (some ⟨Bx, 0, none⟩), .int .i64 x.err, .string s, .int .i64 s.size, .bool false, .string s, .func (.func 18) #[] #[.pointer (some ⟨w.heap.size + 1 + 1 + 1 + 1, 0, none⟩)], x.val, .int .i64 x.err, undef, undef, undef, undef, undef, undef, undef, undef, undef, undef, undef, undef, undef], defers := [] })
    (fun x a' _ X Y row hs hg hr => by obtain ⟨Bx, h1, h2, h3⟩ := hs; exact ⟨Bx, h1, h2.kept hg (fun r e => (hr r e).2), h3⟩)
    ?assign ?body ?done ?stop
  case assign =>
    rintro l pre x W K hI hK
    have hBW := hI.2
    have hvx : x.val = .agg #[.int .i64 x.k, .string x.t, .int .i64 x.v, .int .i64 x.at_] := rfl
    have hsW := hBW.size
    have h3 := hI.1.1.1.1.1
    gi_wp2
    exact hK _ _ ((KeepsOthers.alloc _ _).from _) (Keep.alloc _ hsW _) (OwnFrom.alloc (LI_own _ _ W0.heap.size _ (Nat.le_refl _) (by omega)) _ hI) ⟨W.heap.size, by obtain ⟨v, hv, _⟩ := h3; exact hv.lt, World.alloc_heap_new W _, rfl⟩
  case body =>
    rintro l pre x a' W hl ⟨r, hr⟩ hI ⟨Bx, hBx, bX, rfl⟩ hlt
    obtain ⟨⟨⟨⟨⟨⟨v, hv, hrow, hnil, hgood⟩, c0⟩, c1⟩, c2⟩, c4⟩, hBW⟩ := hI
    obtain ⟨va, vc, rfl⟩ := row_slice hrow
    have hcell := hv.cell
    have hsW := hBW.size
    have hvx : x.val = .agg #[.int .i64 x.k, .string x.t, .int .i64 x.v, .int .i64 x.at_] := rfl
    by_cases h6 : pre.length = 6000
    · have ht6 : ((pre.length : Int) == 6000) = true := by rw [h6]; rfl
      have HR := Lib.hid (LX_mk (B := W0.heap.size) hgood (show errOf pre.length x = 2 by unfold errOf; rw [if_pos h6]) (by decide) _ _ c0 c1 c2 hBW)
      have hv := Lib.hid hv
      have hrow := Lib.hid hrow
      have x3 : W.cell? ⟨Bx, 3, none⟩ = some (.int .i64 x.at_) := bX.cell 3
      have d0 := c0.cell
      have d1 := c1.cell
      have d2 : W.cell? ⟨w.heap.size + 1 + 1, 0, none⟩ = some (.int .i64 0) := c2.cell
      have f0 := c0.frozen
      have f1 := c1.frozen
      have f2 : W.frozen? ⟨w.heap.size + 1 + 1, 0, none⟩ = false := c2.frozen
      gi_wp2
      gi_region
      all_goals gi_wp2
      all_goals exact HR.out
    · have ht6 : ((pre.length : Int) == 6000) = false := by simp; omega
      by_cases he : x.err = 0
      · have ht7 : (x.err != 0) = false := by simpa using he
        have hgl := hgood.2
        have HV := Lib.hid hv
        have HR := Lib.hid hrow
        have HN := Lib.hid hnil
        have HG := Lib.hid hgood
        have HE := Lib.hid he
        have x0 : W.cell? ⟨Bx, 0, none⟩ = some (.int .i64 x.k) := bX.cell 0
        have x1 : W.cell? ⟨Bx, 1, none⟩ = some (.string x.t) := bX.cell 1
        have x2 : W.cell? ⟨Bx, 2, none⟩ = some (.int .i64 x.v) := bX.cell 2
        have x3 : W.cell? ⟨Bx, 3, none⟩ = some (.int .i64 x.at_) := bX.cell 3
        clear hv hrow hnil hgood he
        gi_wp2_with (gi_at_builtin; go_must (refine wpListIn_append_spare _ rfl _ _ 23 rfl w.heap.size 29 i0 _ 4 40 Tryd.underlying23 hi hz0 hz1 hz2 rfl (by decide) _ _ _ rfl (HR.out.alloc _) HN.out ⟨W.heap.size, 0, none⟩ 1 1 [.int .i64 x.k, .string x.t, .int .i64 x.v, .int .i64 x.at_] rfl rfl (cell_four_new _ _ _ _ _ _) (by simp [Value.oneCell']) (by decide) (by unfold maxLen; omega) (by omega) (by simp; omega) ?_); intro v' w1 hown' hgrow hspare; obtain ⟨g', cap', rfl⟩ := ownsRow_succ hown'; obtain ⟨hv1, hkf, hkp, hli⟩ := LI_step (B := W0.heap.size) HV.out HR.out HG.out h6 HE.out c0 c1 c2 c4 hBW (Nat.le_refl _) hown' hgrow hspare; have hc1 := hv1.cell; have hf1 := hv1.frozen; clear hown' hgrow hspare hv1)
        exact ⟨hkf, hkp, hli⟩
      · have ht7 : (x.err != 0) = true := by simpa using he
        have HR := Lib.hid (LX_mk (B := W0.heap.size) hgood (show errOf pre.length x = x.err by unfold errOf; rw [if_neg h6]) he _ _ c0 c1 c2 hBW)
        have hv := Lib.hid hv
        have hrow := Lib.hid hrow
        have x3 : W.cell? ⟨Bx, 3, none⟩ = some (.int .i64 x.at_) := bX.cell 3
        have d0 := c0.cell
        have d1 := c1.cell
        have d2 : W.cell? ⟨w.heap.size + 1 + 1, 0, none⟩ = some (.int .i64 0) := c2.cell
        have f0 := c0.frozen
        have f1 := c1.frozen
        have f2 : W.frozen? ⟨w.heap.size + 1 + 1, 0, none⟩ = false := c2.frozen
        gi_wp2
        gi_region
        all_goals gi_wp2
        all_goals exact HR.out
  case done =>
    rintro D ys W hD hys ⟨⟨⟨⟨⟨⟨v, hv, hrow, hnil, hgood⟩, c0⟩, c1⟩, c2⟩, c4⟩, hBW⟩ hK
    obtain ⟨va, vc, rfl⟩ := row_slice hrow
    have hcell := hv.cell
    have hcell2 : W.cell? ⟨w.heap.size + 1 + 1 + 1, 0, none⟩ = some (.slice va ys.length vc) := hv.cell
    have d0 := c0.cell
    have d1 := c1.cell
    have d2 : W.cell? ⟨w.heap.size + 1 + 1, 0, none⟩ = some (.int .i64 0) := c2.cell
    have f0 := c0.frozen
    have f1 := c1.frozen
    have f2 : W.frozen? ⟨w.heap.size + 1 + 1, 0, none⟩ = false := c2.frozen
    obtain ⟨W3, hW3, hK3, e0, e1, e2, hr3, hB3⟩ := done_mk (v := .slice va ys.length vc) (.int .i64 0) (.int .i64 (-1)) hrow c0 c1 c2 hBW hK (by omega) (Nat.le_refl _)
    have HW := Lib.hid hW3
    have HG := Lib.hid hgood
    have HY := Lib.hid hys
    clear hv hrow hgood hnil hW3 hys
    gi_wp2
    rw [HW.out]
    refine ⟨by simp, .inl ⟨_, _, rfl, run_takeDeferred hK3, ?_⟩⟩
    refine ⟨.tuple #[.slice va ys.length vc, .int .i64 0, .int .i64 (-1)], by simp [results, Tryd.f10, go_sem, e0, e1, e2], .inl ⟨?_, _, rfl, ?_⟩, hB3⟩
    · rw [← HY.out]; exact cut_none 0 ys HG.out.1 (by have := HG.out.2; omega)
    · rw [← HY.out]; exact hr3
  case stop =>
    rintro D c pre W hD hpre ⟨⟨rfl, ini, x, rfl, hg, hne, c0, c1, c2⟩, hBW⟩ hK
    obtain ⟨e0, e1, e2, hB3⟩ := stop_mk c0 c1 c2 hBW hK (by omega) (Nat.le_refl _)
    have hcut : cut 0 (its s (gap s 0)) = some (errOf ini.length x, x.at_) := by
      obtain ⟨l, hl⟩ := hpre
      rw [← hl, List.append_assoc]
      have := cut_some 0 ini x l hg.1 (by have := hg.2; omega) (by rw [Nat.zero_add]; exact hne)
      rw [Nat.zero_add] at this
      exact this
    generalize errOf ini.length x = er at *
    gi_wp2
    refine ⟨by simp, .inl ⟨_, _, rfl, run_takeDeferred hK, ?_⟩⟩
    exact ⟨.tuple #[.slice none 0 0, .int .i64 er, .int .i64 x.at_], by simp [results, Tryd.f10, go_sem, e0, e1, e2], .inr ⟨_, _, hcut, rfl⟩, hB3⟩
/-- A text that is too long. -/
theorem lex_long (s : ByteArray) (w : World) (hs : ¬ s.size ≤ 20000) (hm : s.size ≤ 2 ^ 63 - 1) :
    Calls Tryd.prog 10 #[.string s] w fun e W' => e = .returned (.tuple #[.slice none 0 0, .int .i64 2, .int .i64 (-1)]) ∧ Below w.heap.size w W' := by
  go_enter Tryd.func10, Tryd.ntmps10
  go_wp2
  exact bodyPost_ret (v := .tuple #[.slice none 0 0, .int .i64 2, .int .i64 (-1)]) (by simp [results, Tryd.results10, go_sem]) rfl ⟨rfl, (((Below.refl _ w).alloc (Nat.le_refl _) _).alloc (by simp) _).alloc (by simp; omega) _⟩
/-- 'Lex' at every text that is not too long. -/
theorem lex_any (s : ByteArray) (w : World) (hs : s.size ≤ 20000) (hT : Tab w) : Calls Tryd.prog 10 #[.string s] w fun e W' => LexPost (its s (gap s 0)) w e W' :=
  callsIn_wide.1 (lex_in s w hs hT)
end Go.Proofs.YtaokedpcijmncaaDoor
