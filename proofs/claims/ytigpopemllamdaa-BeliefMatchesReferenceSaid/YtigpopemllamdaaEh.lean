/- Beliefs, the reference: 'Sent', its loop. -/
import Derived.Test.YtigpopemllamdaaEg
import Derived.Deep.CutRange
namespace Go.Proofs.Ytigpopemllamdaa
open Go.RowKit

theorem rs_take {L : List Od} {i : Nat} (h : i < L.length) : L.take (i + 1) = L.take i ++ [L.getD i zO] := by rw [List.take_add_one, od_get h]; rfl
theorem rs_any {p : Od → Bool} {L : List Od} {i : Nat} (h : i < L.length) : (L.take (i + 1)).any p = ((L.take i).any p || p (L.getD i zO)) := by rw [rs_take h]; simp only [List.any_append, List.any_cons, List.any_nil, Bool.or_false]
def snA (o : Od) (L : List Od) : Bool := L.any fun x => decide (o.a ≤ x.a)
def snC (L : List Od) : Bool := decide (8 ≤ (flt L).length) || decide (20 ≤ L.length)
def snB (o : Od) (L : List Od) : Bool := L.any fun x => decide (o.b < x.b)
theorem snA_step {o : Od} {L : List Od} {i : Nat} (h : i < L.length) : snA o (L.take (i + 1)) = (snA o (L.take i) || decide (o.a ≤ (L.getD i zO).a)) := rs_any h
theorem snB_step {o : Od} {L : List Od} {i : Nat} (h : i < L.length) : snB o (L.take (i + 1)) = (snB o (L.take i) || decide (o.b < (L.getD i zO).b)) := rs_any h
theorem rs_hit {p : Od → Bool} {L : List Od} {i : Nat} (h : i < L.length) (hp : p (L.getD i zO) = true) : L.any p = true := List.any_eq_true.2 ⟨_, getD_mem h, hp⟩
theorem snA_hit {o : Od} {L : List Od} {i : Nat} (h : i < L.length) (hp : decide (o.a ≤ (L.getD i zO).a) = true) : snA o L = true := rs_hit h hp
theorem rs_fl {L : List Od} {i : Nat} (h : i < L.length) : (flt (L.take (i + 1))).length = (flt (L.take i)).length + (if stB (L.getD i zO) = true then 0 else 1) := by
  unfold flt
  rw [rs_take h, List.filter_append, List.length_append, List.filter_cons]
  cases hs : stB (L.getD i zO)
  · rw [if_pos (by rfl), if_neg (by simp)]; rfl
  · rw [if_neg (by simp), if_pos rfl]; rfl
/-- A list of orders is appended to an empty row of one's own. -/
theorem app_nil {w : World} {base g sc : Nat} {sa : Option Addr} {L : List Od} (h : OdsAt w (.slice sa L.length sc) L) (hr : w.ownsRow base 27 4 (.slice (some ⟨g, 0, none⟩) 0 0) 0 []) (h9 : L.length ≤ 100000) (hl : base ≤ w.heap.size) :
    ∃ (a : Option Addr) (c : Nat) (w' : World), (Builtin.append_ #[23, 23] 23 #[.slice (some ⟨g, 0, none⟩) 0 0, .slice sa L.length sc]).run Try.prog w = .ok (.slice a L.length c) w' ∧ Below w.heap.size w w' ∧ w'.ownsRow base 27 4 (.slice a L.length c) L.length (ocs L) := by
  obtain ⟨i0, hi, hz0, hz1, hz2⟩ := info_parts od_info
  have h2 := h
  obtain ⟨a, cap, hv, -, hm, hc⟩ := h2
  obtain ⟨rfl, rfl⟩ : sa = a ∧ sc = cap := by simpa using hv
  by_cases hL : L = []
  · subst hL
    refine ⟨some ⟨g, 0, none⟩, 0, w, ?_, Below.refl _ _, hr⟩
    cases sa <;> simp [Builtin.append_, run_underlying Try.underlying23, sizeOf, typeInfo, hi, Builtin.lenOf, Builtin.firstCells, storeCells, loadCells, loadCellsFrom]
  · obtain ⟨b1, o1, rfl, -⟩ := hc hL
    have hpos : 0 < L.length := List.length_pos_iff.2 hL
    obtain ⟨v', w', q1, q2, q3, -, -⟩ := run_append_own_at (P := Try.prog) w base 23 23 27 i0 _ 4 32 Try.underlying23 hi hz0 hz1 hz2 rfl (by decide) _ 0 [] hr ⟨b1, o1, none⟩ L.length sc (ocs L) (ocs_len L) (od_cells h _ rfl) (ocs_one' L) (by unfold maxLen; omega) (by omega) hl
    have q4 := run_append_grow (P := Try.prog) (w := w) 23 23 27 i0 _ Try.underlying23 hi hz0 ⟨g, 0, none⟩ 0 0 [] (by simp) (fun j v hj => by simp at hj) ⟨b1, o1, none⟩ L.length sc (ocs L) (by rw [hz1]; exact ocs_len L) (od_cells h _ rfl) (by omega) (by omega) (by rw [Nat.zero_add, nextslicecap_zero hpos, hz2]; omega)
    rw [q1] at q4
    obtain ⟨e1, e2⟩ : v' = _ ∧ w' = _ := by simpa using q4
    have q2' : w'.ownsRow base 27 4 v' L.length (ocs L) := by simpa using q2
    obtain ⟨a', c', e3⟩ := row_slice q2'
    rw [e3] at q1 q2'
    exact ⟨a', c', w', q1, by rw [e2]; exact (below_drew w.heap.size w).alloc (Nat.le_refl _) _, q2'⟩
theorem step_app {ops : Array Oper} {o : Oper} {a : Act} {w w' : World} {K : Act → World → Prop} {Q : Exit → Act → World → Prop} {E : Prop} (hgd : o.guard = none) (s x : Operand) (t : TypeId)
    (ho : o.op = .call { callee := .builtin .append, args := #[s, x], argTypes := #[t, t] }) (v sl v' : Value) (hs : a.eval s = v) (hx : a.eval x = sl)
    (hr : (Builtin.append_ #[t, t] o.type #[v, sl]).run Try.prog w = .ok v' w') (h : K (a.put o.dst v') w') :
    if Region.wanted o (yielded ops a.tmps) = true then Oper.wp Try.prog o a w K Q else E := by
  have hw : Region.wanted o (yielded ops a.tmps) = true := by simp [Region.wanted, hgd]
  rw [if_pos hw]
  unfold Oper.wp execOp
  simp only [ho, resolve, invoke, builtin, Sem.run_bind, Sem.run_pure, Result.andThen_ok, List.map_toArray, List.map_cons, List.map_nil, hs, hx, hr]
  exact h
def QbO (x : Od) (b : Bool) (v : Value) (w : World) : Prop := ∃ g, v = .slice (some ⟨g, 0, none⟩) 1 1 ∧ (b = false → BoxN w g #[.int .i64 x.a, .int .i64 x.b, .int .i64 x.c, .int .i64 x.d] 27)
theorem QbO.step {x : Od} {b : Bool} {v : Value} {w w' : World} (h : QbO x b v w) (hb : Below w.heap.size w w') : QbO x b v w' := by
  obtain ⟨g, e, h⟩ := h
  exact ⟨g, e, fun q => (h q).step hb⟩
theorem QbO.put {x : Od} {b : Bool} {v : Value} {w : World} (h : QbO x b v w) (w' : World) : QbO x true v w' := by
  obtain ⟨g, e, h⟩ := h
  exact ⟨g, e, fun q => by cases q⟩
def ZbS (w : World) (k : Nat) : Prop := ∃ (a c : Option Addr) (n m p q : Nat), BoxN w k #[.slice a n m, .slice c p q] 25
theorem ZbS.sl {w : World} {k : Nat} (h : ZbS w k) : Sl w k := by
  obtain ⟨a, c, n, m, p, q, h⟩ := h
  exact sl_of h
theorem ZbS.step {w w' : World} {k : Nat} (h : ZbS w k) (hb : Below w.heap.size w w') : ZbS w' k := by
  obtain ⟨a, c, n, m, p, q, h⟩ := h
  exact ⟨a, c, n, m, p, q, h.step hb⟩
theorem own_someE {w : World} {base e s n c m k : Nat} {a : Option Addr} {xs : List Value} (h : w.ownsRow base e s (.slice a n c) m xs) (hk : some k = (Value.slice a n c).ownBlock) : ∃ o, a = some ⟨k, o, none⟩ ∧ base ≤ k := by
  rcases h.2 with ⟨e, -⟩ | ⟨g, cap, cur, e, h1, -⟩
  · cases e; simp [Value.ownBlock] at hk
  · cases e
    have : k = g := by simpa [Value.ownBlock] using hk
    subst this
    exact ⟨0, rfl, h1⟩
theorem app_rowE {w : World} {base dc g : Nat} {da : Option Addr} {D D' : List Od} {x : Od} (h : w.ownsRow base 27 4 (.slice da D.length dc) D.length (ocs D)) (hb : BoxN w g #[.int .i64 x.a, .int .i64 x.b, .int .i64 x.c, .int .i64 x.d] 27) (hD : D.length ≤ 100000) (hD' : D' = D ++ [x]) (hl : base ≤ w.heap.size) :
    ∃ (da' : Option Addr) (dc' : Nat) (w' : World), (Builtin.append_ #[23, 23] 23 #[.slice da D.length dc, .slice (some ⟨g, 0, none⟩) 1 1]).run Try.prog w = .ok (.slice da' D'.length dc') w' ∧ w.grownBy w' (Value.slice da D.length dc).ownBlock ∧ w'.ownsRow base 27 4 (.slice da' D'.length dc') D'.length (ocs D') ∧
      ((Value.slice da' D'.length dc').ownBlock = (Value.slice da D.length dc).ownBlock ∨ ∀ k, (Value.slice da' D'.length dc').ownBlock = some k → w.heap.size ≤ k) := by
  have nx7 : ∀ j u, ([.int .i64 x.a, .int .i64 x.b, .int .i64 x.c, .int .i64 x.d] : List Value)[j]? = some u → w.cell? ((⟨g, 0, none⟩ : Addr).add j) = some u := World.news_of_block hb
  obtain ⟨i0, hi, hz0, hz1, hz2⟩ := info_parts od_info
  obtain ⟨v8, w8, hr8, ho8, hg8, -, ha8⟩ := run_append_own_at (P := Try.prog) w base 23 23 27 i0 _ 4 32 Try.underlying23 hi hz0 hz1 hz2 rfl (by decide) (.slice da D.length dc) D.length (ocs D) h ⟨g, 0, none⟩ 1 1 [.int .i64 x.a, .int .i64 x.b, .int .i64 x.c, .int .i64 x.d] rfl nx7 (by simp [Value.oneCell']) (by unfold maxLen; omega) (by omega) hl
  have e1 : D'.length = D.length + 1 := by rw [hD']; simp
  obtain ⟨da', dc', rfl⟩ := row_slice ho8
  refine ⟨da', dc', w8, by rw [e1]; exact hr8, hg8, ?_, ?_⟩
  · rw [e1, hD', ocs_app, ocs_one]; exact ho8
  · rw [e1]
    rcases ha8 with q | q
    · exact .inl q
    · exact .inr fun k hk => by rw [q] at hk; cases hk; exact Nat.le_refl _
set_option maxRecDepth 100000 in
set_option maxHeartbeats 8000000 in
theorem rsent_go (va : Option Addr) (vc : Nat) (V : List Int) (sa : Option Addr) (sc : Nat) (L : List Od) (o : Od) (w : World) (h : Rb V L va vc sa sc w) (h9 : L.length ≤ 300) (h8 : V.length ≤ 300) (hw : isW V L = true) (hi0 : inr o.a 0 1000000000 = true) (hi1 : inr o.b 0 1000000000 = true) (hi2 : inr o.c 0 1000000000 = true) (hi3 : inr o.d 0 15 = true) (hpos : 0 < L.length) :
    Calls Try.prog 12 #[.agg #[.slice va V.length vc, .slice sa L.length sc], .agg #[.int .i64 o.a, .int .i64 o.b, .int .i64 o.c, .int .i64 o.d]] w (fun e w' => (snA o L = true ∧ e = .returned (.tuple #[.agg #[.slice none 0 0, .slice none 0 0], .int .i64 1]) ∧ Below w.heap.size w w') ∨ (snA o L = false ∧ snB o L = true ∧ e = .returned (.tuple #[.agg #[.slice none 0 0, .slice none 0 0], .int .i64 23]) ∧ Below w.heap.size w w') ∨ (snA o L = false ∧ snB o L = false ∧ snC L = true ∧ e = .returned (.tuple #[.agg #[.slice none 0 0, .slice none 0 0], .int .i64 2]) ∧ Below w.heap.size w w') ∨ (snA o L = false ∧ snB o L = false ∧ snC L = false ∧ ChQ (rvl (L ++ [o])) (L ++ [o]) 0 w e w')) := by
  have HWW := Lib.hid hw
  have HPOS := Lib.hid hpos
  have HI0 := Lib.hid hi0
  have HI1 := Lib.hid hi1
  have HI2 := Lib.hid hi2
  have HI3 := Lib.hid hi3
  clear hw hpos hi0 hi1 hi2 hi3
  have HLn := Lib.hid h9
  have HVn := Lib.hid h8
  clear h9 h8
  have H0 := Lib.hid (Below.refl w.heap.size w)
  have H1 := Lib.hid (h)
  clear h
  have H2 := Lib.hid (H1.out.step (al w (.cells #[.slice va V.length vc, .slice sa L.length sc] 25)))
  clear H1
  have H3 := Lib.hid (keep2 (al w (.cells #[.slice va V.length vc, .slice sa L.length sc] 25)) H0.out)
  clear H0
  have H4 := Lib.hid (Cs.new w (w.heap.size) #[.slice va V.length vc, .slice sa L.length sc] 25 (by simp))
  have H5 := Lib.hid (H2.out.step (al (w.alloc (.cells #[.slice va V.length vc, .slice sa L.length sc] 25)) (.cells #[.int .i64 o.a, .int .i64 o.b, .int .i64 o.c, .int .i64 o.d] 27)))
  clear H2
  have H6 := Lib.hid (H4.out.step (al (w.alloc (.cells #[.slice va V.length vc, .slice sa L.length sc] 25)) (.cells #[.int .i64 o.a, .int .i64 o.b, .int .i64 o.c, .int .i64 o.d] 27)))
  clear H4
  have H7 := Lib.hid (keep2 (al (w.alloc (.cells #[.slice va V.length vc, .slice sa L.length sc] 25)) (.cells #[.int .i64 o.a, .int .i64 o.b, .int .i64 o.c, .int .i64 o.d] 27)) H3.out)
  clear H3
  have H8 := Lib.hid (Cs.new (w.alloc (.cells #[.slice va V.length vc, .slice sa L.length sc] 25)) (w.heap.size + 1) #[.int .i64 o.a, .int .i64 o.b, .int .i64 o.c, .int .i64 o.d] 27 (by simp))
  have H9 := Lib.hid (H5.out.step (al ((w.alloc (.cells #[.slice va V.length vc, .slice sa L.length sc] 25)).alloc (.cells #[.int .i64 o.a, .int .i64 o.b, .int .i64 o.c, .int .i64 o.d] 27)) (.cells #[.slice none 0 0, .slice none 0 0] 25)))
  clear H5
  have H10 := Lib.hid (H6.out.step (al ((w.alloc (.cells #[.slice va V.length vc, .slice sa L.length sc] 25)).alloc (.cells #[.int .i64 o.a, .int .i64 o.b, .int .i64 o.c, .int .i64 o.d] 27)) (.cells #[.slice none 0 0, .slice none 0 0] 25)))
  clear H6
  have H11 := Lib.hid (H8.out.step (al ((w.alloc (.cells #[.slice va V.length vc, .slice sa L.length sc] 25)).alloc (.cells #[.int .i64 o.a, .int .i64 o.b, .int .i64 o.c, .int .i64 o.d] 27)) (.cells #[.slice none 0 0, .slice none 0 0] 25)))
  clear H8
  have H12 := Lib.hid (keep2 (al ((w.alloc (.cells #[.slice va V.length vc, .slice sa L.length sc] 25)).alloc (.cells #[.int .i64 o.a, .int .i64 o.b, .int .i64 o.c, .int .i64 o.d] 27)) (.cells #[.slice none 0 0, .slice none 0 0] 25)) H7.out)
  clear H7
  have H13 := Lib.hid (Cs.new ((w.alloc (.cells #[.slice va V.length vc, .slice sa L.length sc] 25)).alloc (.cells #[.int .i64 o.a, .int .i64 o.b, .int .i64 o.c, .int .i64 o.d] 27)) (w.heap.size + 1 + 1) #[.slice none 0 0, .slice none 0 0] 25 (by simp))
  have H14 := Lib.hid (by have g := BoxN.new ((w.alloc (.cells #[.slice va V.length vc, .slice sa L.length sc] 25)).alloc (.cells #[.int .i64 o.a, .int .i64 o.b, .int .i64 o.c, .int .i64 o.d] 27)) #[.slice none 0 0, .slice none 0 0] 25; rw [show ((w.alloc (.cells #[.slice va V.length vc, .slice sa L.length sc] 25)).alloc (.cells #[.int .i64 o.a, .int .i64 o.b, .int .i64 o.c, .int .i64 o.d] 27)).heap.size = w.heap.size + 1 + 1 by simp] at g; exact g)
  go_enter Try.func12, Try.ntmps12
  have xb0 : (((w.alloc (.cells #[.slice va V.length vc, .slice sa L.length sc] 25)).alloc (.cells #[.int .i64 o.a, .int .i64 o.b, .int .i64 o.c, .int .i64 o.d] 27)).alloc (.cells #[.slice none 0 0, .slice none 0 0] 25)).cell? ⟨(w.heap.size), 0, none⟩ = some (.slice va V.length vc) := H10.out.c 0 rfl
  have xb1 : (((w.alloc (.cells #[.slice va V.length vc, .slice sa L.length sc] 25)).alloc (.cells #[.int .i64 o.a, .int .i64 o.b, .int .i64 o.c, .int .i64 o.d] 27)).alloc (.cells #[.slice none 0 0, .slice none 0 0] 25)).cell? ⟨(w.heap.size), 1, none⟩ = some (.slice sa L.length sc) := H10.out.c 1 rfl
  have zb : (w.heap.size) < (((w.alloc (.cells #[.slice va V.length vc, .slice sa L.length sc] 25)).alloc (.cells #[.int .i64 o.a, .int .i64 o.b, .int .i64 o.c, .int .i64 o.d] 27)).alloc (.cells #[.slice none 0 0, .slice none 0 0] 25)).heap.size := H10.out.2.2
  go_wp2_with fail
  refine (validR_any va vc V sa sc L _ H9.out (by have := HLn.out; unfold maxLen; omega) (by have := HVn.out; unfold maxLen; omega)).mono ?_
  rintro e u1 ⟨rfl, b1⟩
  clear xb0 xb1 zb
  have H15 := Lib.hid (H9.out.step b1)
  clear H9
  have H16 := Lib.hid (H10.out.step b1)
  clear H10
  have H17 := Lib.hid (H11.out.step b1)
  clear H11
  have H18 := Lib.hid (H13.out.step b1)
  clear H13
  have H19 := Lib.hid (H14.out.step b1)
  clear H14
  have H20 := Lib.hid (keep2 b1 H12.out)
  clear H12
  clear b1
  rw [HWW.out]
  have xo0 : u1.cell? ⟨(w.heap.size + 1), 0, none⟩ = some (.int .i64 o.a) := H17.out.c 0 rfl
  have xo1 : u1.cell? ⟨(w.heap.size + 1), 1, none⟩ = some (.int .i64 o.b) := H17.out.c 1 rfl
  have xo2 : u1.cell? ⟨(w.heap.size + 1), 2, none⟩ = some (.int .i64 o.c) := H17.out.c 2 rfl
  have xo3 : u1.cell? ⟨(w.heap.size + 1), 3, none⟩ = some (.int .i64 o.d) := H17.out.c 3 rfl
  have zo : (w.heap.size + 1) < u1.heap.size := H17.out.2.2
  go_wp2_with fail
  refine (between_any 0 o.a 1000000000 _).mono ?_
  rintro e u2 ⟨rfl, b2⟩
  clear xo0 xo1 xo2 xo3 zo
  have H21 := Lib.hid (H15.out.step b2)
  clear H15
  have H22 := Lib.hid (H16.out.step b2)
  clear H16
  have H23 := Lib.hid (H17.out.step b2)
  clear H17
  have H24 := Lib.hid (H18.out.step b2)
  clear H18
  have H25 := Lib.hid (H19.out.step b2)
  clear H19
  have H26 := Lib.hid (keep2 b2 H20.out)
  clear H20
  clear b2
  rw [HI0.out]
  have xo0 : u2.cell? ⟨(w.heap.size + 1), 0, none⟩ = some (.int .i64 o.a) := H23.out.c 0 rfl
  have xo1 : u2.cell? ⟨(w.heap.size + 1), 1, none⟩ = some (.int .i64 o.b) := H23.out.c 1 rfl
  have xo2 : u2.cell? ⟨(w.heap.size + 1), 2, none⟩ = some (.int .i64 o.c) := H23.out.c 2 rfl
  have xo3 : u2.cell? ⟨(w.heap.size + 1), 3, none⟩ = some (.int .i64 o.d) := H23.out.c 3 rfl
  have zo : (w.heap.size + 1) < u2.heap.size := H23.out.2.2
  go_wp2_with fail
  refine (between_any 0 o.b 1000000000 _).mono ?_
  rintro e u3 ⟨rfl, b3⟩
  clear xo0 xo1 xo2 xo3 zo
  have H27 := Lib.hid (H21.out.step b3)
  clear H21
  have H28 := Lib.hid (H22.out.step b3)
  clear H22
  have H29 := Lib.hid (H23.out.step b3)
  clear H23
  have H30 := Lib.hid (H24.out.step b3)
  clear H24
  have H31 := Lib.hid (H25.out.step b3)
  clear H25
  have H32 := Lib.hid (keep2 b3 H26.out)
  clear H26
  clear b3
  rw [HI1.out]
  have xo0 : u3.cell? ⟨(w.heap.size + 1), 0, none⟩ = some (.int .i64 o.a) := H29.out.c 0 rfl
  have xo1 : u3.cell? ⟨(w.heap.size + 1), 1, none⟩ = some (.int .i64 o.b) := H29.out.c 1 rfl
  have xo2 : u3.cell? ⟨(w.heap.size + 1), 2, none⟩ = some (.int .i64 o.c) := H29.out.c 2 rfl
  have xo3 : u3.cell? ⟨(w.heap.size + 1), 3, none⟩ = some (.int .i64 o.d) := H29.out.c 3 rfl
  have zo : (w.heap.size + 1) < u3.heap.size := H29.out.2.2
  go_wp2_with fail
  refine (between_any 0 o.c 1000000000 _).mono ?_
  rintro e u4 ⟨rfl, b4⟩
  clear xo0 xo1 xo2 xo3 zo
  have H33 := Lib.hid (H27.out.step b4)
  clear H27
  have H34 := Lib.hid (H28.out.step b4)
  clear H28
  have H35 := Lib.hid (H29.out.step b4)
  clear H29
  have H36 := Lib.hid (H30.out.step b4)
  clear H30
  have H37 := Lib.hid (H31.out.step b4)
  clear H31
  have H38 := Lib.hid (keep2 b4 H32.out)
  clear H32
  clear b4
  rw [HI2.out]
  have xo0 : u4.cell? ⟨(w.heap.size + 1), 0, none⟩ = some (.int .i64 o.a) := H35.out.c 0 rfl
  have xo1 : u4.cell? ⟨(w.heap.size + 1), 1, none⟩ = some (.int .i64 o.b) := H35.out.c 1 rfl
  have xo2 : u4.cell? ⟨(w.heap.size + 1), 2, none⟩ = some (.int .i64 o.c) := H35.out.c 2 rfl
  have xo3 : u4.cell? ⟨(w.heap.size + 1), 3, none⟩ = some (.int .i64 o.d) := H35.out.c 3 rfl
  have zo : (w.heap.size + 1) < u4.heap.size := H35.out.2.2
  go_wp2_with fail
  refine (between_any 0 o.d 15 _).mono ?_
  rintro e u5 ⟨rfl, b5⟩
  clear xo0 xo1 xo2 xo3 zo
  have H39 := Lib.hid (H33.out.step b5)
  clear H33
  have H40 := Lib.hid (H34.out.step b5)
  clear H34
  have H41 := Lib.hid (H35.out.step b5)
  clear H35
  have H42 := Lib.hid (H36.out.step b5)
  clear H36
  have H43 := Lib.hid (H37.out.step b5)
  clear H37
  have H44 := Lib.hid (keep2 b5 H38.out)
  clear H38
  clear b5
  rw [HI3.out]
  obtain ⟨a1, cc1, hv1, -, -, hcs1⟩ := H39.out.2
  obtain ⟨rfl, rfl⟩ : sa = a1 ∧ sc = cc1 := by simpa using hv1
  obtain ⟨b1, o1, rfl, -⟩ := hcs1 (by intro e; have := HPOS.out; rw [e] at this; simp at this)
  clear hcs1 hv1
  go_wp2_with fail
  obtain ⟨U, hU⟩ : ∃ z9, u5 = z9 := ⟨_, rfl⟩
  rw [hU] at H39 H40 H41 H42 H43 H44 ⊢
  clear hU
  go_loopw [6, 7, 8] (fun lv nv iv wr => ∃ (i n : Nat) (lo : Bool), i ≤ L.length ∧ n ≤ i ∧ lv = .bool lo ∧ nv = .int .i64 (n : Int) ∧ iv = .int .i64 (i : Int) ∧ Hid (snA o (L.take i) = false) ∧ Hid (snB o (L.take i) = lo) ∧ Hid ((flt (L.take i)).length = n) ∧ Hid (Below U.heap.size U wr)) (fun _ _ iv _ => L.length - (intOf iv).toNat)
  case atStart => exact ⟨0, 0, false, by omega, by omega, rfl, rfl, rfl, Lib.hid rfl, Lib.hid rfl, Lib.hid rfl, Lib.hid (Below.refl _ _)⟩
  case round =>
    obtain ⟨i, n, lo, hi, hn, rfl, rfl, rfl, HA, HO, HN, HW⟩ := hrel
    have H45 := Lib.hid (H39.out.step HW.out)
    have H46 := Lib.hid (H40.out.step HW.out)
    have H47 := Lib.hid (H41.out.step HW.out)
    have H48 := Lib.hid (H42.out.step HW.out)
    have H49 := Lib.hid (H43.out.step HW.out)
    have H50 := Lib.hid (keep2 HW.out H44.out)
    by_cases hlt : i < L.length
    rotate_left
    · skip
      have hil : i = L.length := by omega
      have HAX := Lib.hid (show snA o L = false by have := HA.out; rwa [hil, List.take_length] at this)
      have HBX := Lib.hid (show snB o L = lo by have := HO.out; rwa [hil, List.take_length] at this)
      have HNX := Lib.hid (show (flt L).length = n by have := HN.out; rwa [hil, List.take_length] at this)
      have xb0 : wr.cell? ⟨(w.heap.size), 0, none⟩ = some (.slice va V.length vc) := H46.out.c 0 rfl
      have xb1 : wr.cell? ⟨(w.heap.size), 1, none⟩ = some (.slice (some ⟨b1, o1, none⟩) L.length sc) := H46.out.c 1 rfl
      have zb : (w.heap.size) < wr.heap.size := H46.out.2.2
      have t1 : ¬ (i : Int) < (L.length : Int) := by omega
      have t2 : decide ((i : Int) < (L.length : Int)) = false := decide_eq_false t1
      cases lo
      rotate_left
      · skip
        have xz0 : wr.cell? ⟨(w.heap.size + 1 + 1), 0, none⟩ = some (.slice none 0 0) := H48.out.c 0 rfl
        have xz1 : wr.cell? ⟨(w.heap.size + 1 + 1), 1, none⟩ = some (.slice none 0 0) := H48.out.c 1 rfl
        have zz : (w.heap.size + 1 + 1) < wr.heap.size := H48.out.2.2
        have fz0 : wr.frozen? ⟨(w.heap.size + 1 + 1), 0, none⟩ = false := H48.out.f 0 (by simp)
        have fz1 : wr.frozen? ⟨(w.heap.size + 1 + 1), 1, none⟩ = false := H48.out.f 1 (by simp)
        go_wp2
        refine (fun (h : ∀ X : World, Cs X (w.heap.size + 1 + 1) #[.slice none 0 0, .slice none 0 0] → Chg (w.heap.size + 1 + 1) wr X → bodyPost Try.prog Try.f12 _ Exit.ret _ X) => h _ (Cs.set (Cs.set H48.out 0 (by simp) (.slice none 0 0) rfl) 1 (by simp) (.slice none 0 0) (vs' := #[.slice none 0 0, .slice none 0 0]) rfl) (((Chg.of (Below.refl _ wr)).set 0 _).set 1 _)) ?_
        intro X hC hB
        have k0 : X.cell? ⟨(w.heap.size + 1 + 1), 0, none⟩ = some (.slice none 0 0) := hC.c 0 rfl
        have k1 : X.cell? ⟨(w.heap.size + 1 + 1), 1, none⟩ = some (.slice none 0 0) := hC.c 1 rfl
        exact bodyPost_ret (v := .tuple #[.agg #[.slice none 0 0, .slice none 0 0], .int .i64 23]) (by simp [results, Try.results12, go_sem, k0, k1]) rfl (.inr (.inl ⟨HAX.out, HBX.out, rfl, H50.out.trans (hB.below (by omega) H50.out.size)⟩))
      by_cases g5 : 8 ≤ n
      · skip
        have g6 : (8 : Int) ≤ (n : Int) := by omega
        have g7 : decide ((8 : Int) ≤ (n : Int)) = true := decide_eq_true g6
        have HG8 := Lib.hid (show snC L = true by unfold snC; rw [HNX.out, decide_eq_true g5]; rfl)
        have xz0 : wr.cell? ⟨(w.heap.size + 1 + 1), 0, none⟩ = some (.slice none 0 0) := H48.out.c 0 rfl
        have xz1 : wr.cell? ⟨(w.heap.size + 1 + 1), 1, none⟩ = some (.slice none 0 0) := H48.out.c 1 rfl
        have zz : (w.heap.size + 1 + 1) < wr.heap.size := H48.out.2.2
        have fz0 : wr.frozen? ⟨(w.heap.size + 1 + 1), 0, none⟩ = false := H48.out.f 0 (by simp)
        have fz1 : wr.frozen? ⟨(w.heap.size + 1 + 1), 1, none⟩ = false := H48.out.f 1 (by simp)
        go_wp2
        refine (fun (h : ∀ X : World, Cs X (w.heap.size + 1 + 1) #[.slice none 0 0, .slice none 0 0] → Chg (w.heap.size + 1 + 1) wr X → bodyPost Try.prog Try.f12 _ Exit.ret _ X) => h _ (Cs.set (Cs.set H48.out 0 (by simp) (.slice none 0 0) rfl) 1 (by simp) (.slice none 0 0) (vs' := #[.slice none 0 0, .slice none 0 0]) rfl) (((Chg.of (Below.refl _ wr)).set 0 _).set 1 _)) ?_
        intro X hC hB
        have k0 : X.cell? ⟨(w.heap.size + 1 + 1), 0, none⟩ = some (.slice none 0 0) := hC.c 0 rfl
        have k1 : X.cell? ⟨(w.heap.size + 1 + 1), 1, none⟩ = some (.slice none 0 0) := hC.c 1 rfl
        exact bodyPost_ret (v := .tuple #[.agg #[.slice none 0 0, .slice none 0 0], .int .i64 2]) (by simp [results, Try.results12, go_sem, k0, k1]) rfl (.inr (.inr (.inl ⟨HAX.out, HBX.out, HG8.out, rfl, H50.out.trans (hB.below (by omega) H50.out.size)⟩)))
      have g6 : ¬ (8 : Int) ≤ (n : Int) := by omega
      have g7 : decide ((8 : Int) ≤ (n : Int)) = false := decide_eq_false g6
      by_cases h5 : 20 ≤ L.length
      · skip
        have h6 : (20 : Int) ≤ (L.length : Int) := by omega
        have h7 : decide ((20 : Int) ≤ (L.length : Int)) = true := decide_eq_true h6
        have HG8 := Lib.hid (show snC L = true by unfold snC; rw [decide_eq_true h5, Bool.or_true])
        have xz0 : wr.cell? ⟨(w.heap.size + 1 + 1), 0, none⟩ = some (.slice none 0 0) := H48.out.c 0 rfl
        have xz1 : wr.cell? ⟨(w.heap.size + 1 + 1), 1, none⟩ = some (.slice none 0 0) := H48.out.c 1 rfl
        have zz : (w.heap.size + 1 + 1) < wr.heap.size := H48.out.2.2
        have fz0 : wr.frozen? ⟨(w.heap.size + 1 + 1), 0, none⟩ = false := H48.out.f 0 (by simp)
        have fz1 : wr.frozen? ⟨(w.heap.size + 1 + 1), 1, none⟩ = false := H48.out.f 1 (by simp)
        go_wp2
        refine (fun (h : ∀ X : World, Cs X (w.heap.size + 1 + 1) #[.slice none 0 0, .slice none 0 0] → Chg (w.heap.size + 1 + 1) wr X → bodyPost Try.prog Try.f12 _ Exit.ret _ X) => h _ (Cs.set (Cs.set H48.out 0 (by simp) (.slice none 0 0) rfl) 1 (by simp) (.slice none 0 0) (vs' := #[.slice none 0 0, .slice none 0 0]) rfl) (((Chg.of (Below.refl _ wr)).set 0 _).set 1 _)) ?_
        intro X hC hB
        have k0 : X.cell? ⟨(w.heap.size + 1 + 1), 0, none⟩ = some (.slice none 0 0) := hC.c 0 rfl
        have k1 : X.cell? ⟨(w.heap.size + 1 + 1), 1, none⟩ = some (.slice none 0 0) := hC.c 1 rfl
        exact bodyPost_ret (v := .tuple #[.agg #[.slice none 0 0, .slice none 0 0], .int .i64 2]) (by simp [results, Try.results12, go_sem, k0, k1]) rfl (.inr (.inr (.inl ⟨HAX.out, HBX.out, HG8.out, rfl, H50.out.trans (hB.below (by omega) H50.out.size)⟩)))
      have h6 : ¬ (20 : Int) ≤ (L.length : Int) := by omega
      have h7 : decide ((20 : Int) ≤ (L.length : Int)) = false := decide_eq_false h6
      have HG8 := Lib.hid (show snC L = false by unfold snC; rw [HNX.out, decide_eq_false g5, decide_eq_false h5]; rfl)
      go_upto_region 17 with fail
      obtain ⟨LX, hLX⟩ : ∃ z9, L ++ [o] = z9 := ⟨_, rfl⟩
      have HLX := Lib.hid hLX.symm
      have HLQ := Lib.hid hLX
      have HLM := Lib.hid (show LX.length ≤ maxLen by rw [← hLX]; have := HLn.out; simp; unfold maxLen; omega)
      clear hLX
      have HL9 := Lib.hid (show L.length ≤ 100000 by have := HLn.out; omega)
      have HZW := Lib.hid (show w.heap.size ≤ (w.heap.size + 1 + 1) by omega)
      have HZB := Lib.hid (show ZbS wr (w.heap.size + 1 + 1) from ⟨_, _, _, _, _, _, H49.out⟩)
      have HZL := Lib.hid (show (w.heap.size + 1 + 1) < wr.heap.size from H48.out.2.2)
      clear HA HO HN HNX hi hn hil hlt g5 g6 g7 h5 h6 h7 t1 t2
      obtain ⟨lit, hlit⟩ : ∃ lit : (Nat → Value) → Act, lit = fun vs => { tmps := List.toArray (Value.agg #[Value.slice va V.length vc, Value.slice (some { block := b1, off := o1 }) L.length sc] :: Value.agg #[Value.int IntKind.i64 o.a, Value.int IntKind.i64 o.b, Value.int IntKind.i64 o.c, Value.int IntKind.i64 o.d] :: Value.pointer (some { block := w.heap.size, off := 0 }) :: Value.pointer (some { block := w.heap.size + 1, off := 0 }) :: Value.pointer (some { block := w.heap.size + 1 + 1, off := 0 }) :: vs 9 :: Value.bool false :: Value.int IntKind.i64 (n : Int) :: Value.int IntKind.i64 (i : Int) :: Value.agg #[Value.slice va V.length vc, Value.slice (some { block := b1, off := o1 }) L.length sc] :: Value.bool true :: Value.bool false :: Value.bool false :: Value.pointer (some { block := w.heap.size + 1, off := 0 }) :: Value.int IntKind.i64 o.a :: Value.bool true :: Value.bool false :: Value.bool false :: Value.bool false :: Value.pointer (some { block := w.heap.size + 1, off := 1 }) :: Value.int IntKind.i64 o.b :: Value.bool true :: Value.bool false :: Value.bool false :: Value.bool false :: Value.pointer (some { block := w.heap.size + 1, off := 2 }) :: Value.int IntKind.i64 o.c :: Value.bool true :: Value.bool false :: Value.bool false :: Value.bool false :: Value.pointer (some { block := w.heap.size + 1, off := 3 }) :: Value.int IntKind.i64 o.d :: Value.bool true :: Value.bool false :: Value.bool false :: undef :: Value.int IntKind.i64 (i : Int) :: Value.pointer (some { block := w.heap.size, off := 1 }) :: Value.slice (some { block := b1, off := o1 }) L.length sc :: Value.int IntKind.i64 (L.length : Int) :: Value.bool false :: u42 :: u43 :: u44 :: u45 :: u46 :: u47 :: u48 :: u49 :: u50 :: u51 :: u52 :: u53 :: u54 :: u55 :: u56 :: u57 :: u58 :: u59 :: u60 :: u61 :: u62 :: u63 :: u64 :: u65 :: u66 :: u67 :: u68 :: u69 :: u70 :: u71 :: u72 :: u73 :: u74 :: Value.bool false :: undef :: Value.int IntKind.i64 (n : Int) :: Value.bool false :: Value.bool false :: Value.pointer (some { block := w.heap.size, off := 1 }) :: Value.slice (some { block := b1, off := o1 }) L.length sc :: Value.int IntKind.i64 (L.length : Int) :: Value.bool false :: Value.bool false :: undef :: vs 0 :: vs 1 :: vs 2 :: vs 3 :: vs 4 :: vs 5 :: vs 6 :: vs 7 :: []), defers := [] } := ⟨_, rfl⟩
      have HLIT := Lib.hid hlit
      clear hlit
      obtain ⟨val, hval⟩ : ∃ val : List Value, val = [undef, .pointer (some ⟨(w.heap.size), 1, none⟩), .slice (some ⟨b1, o1, none⟩) L.length sc, undef, .agg #[.int .i64 o.a, .int .i64 o.b, .int .i64 o.c, .int .i64 o.d], undef, undef, undef, undef, .int .i64 0] := ⟨_, rfl⟩
      have E1 := Lib.hid (show val.getD 1 undef = .pointer (some ⟨(w.heap.size), 1, none⟩) by rw [hval]; rfl)
      have E2 := Lib.hid (show val.getD 2 undef = .slice (some ⟨b1, o1, none⟩) L.length sc by rw [hval]; rfl)
      have E4 := Lib.hid (show val.getD 4 undef = .agg #[.int .i64 o.a, .int .i64 o.b, .int .i64 o.c, .int .i64 o.d] by rw [hval]; rfl)
      have E9 := Lib.hid (show val.getD 9 undef = .int .i64 0 by rw [hval]; rfl)
      clear hval
      obtain ⟨G, hG0⟩ : ∃ G : Bool → Nat → Value → World → Prop, G = (fun bq iq vq ww => (iq = 0 → ∃ g8 : Nat, vq = .slice (some ⟨g8, 0, none⟩) 0 0 ∧ (bq = false → ww.ownsRow wr.heap.size 27 4 vq 0 [])) ∧ (iq = 3 → ∃ (a8 : Option Addr) (c8 : Nat), vq = .slice a8 L.length c8 ∧ (bq = false → ww.ownsRow wr.heap.size 27 4 vq L.length (ocs L))) ∧ (iq = 5 → QbO o bq vq ww) ∧ (iq = 6 → ∃ (a8 : Option Addr) (c8 : Nat), vq = .slice a8 LX.length c8 ∧ (bq = true → Rb [] LX none 0 a8 c8 ww)) ∧ (iq = 7 → ∃ (ua8 : Option Addr) (uc8 : Nat) (fa8 : Option Addr) (fc8 : Nat), vq = .agg #[.slice ua8 (rvl LX).length uc8, .slice fa8 LX.length fc8] ∧ (bq = true → Rb (rvl LX) LX ua8 uc8 fa8 fc8 ww)) ∧ (iq = 8 → bq = true → ∃ (ua8 : Option Addr) (uc8 : Nat) (fa8 : Option Addr) (fc8 : Nat), BoxN ww (w.heap.size + 1 + 1) #[.slice ua8 (rvl LX).length uc8, .slice fa8 LX.length fc8] 25 ∧ Rb (rvl LX) LX ua8 uc8 fa8 fc8 ww) ∧ (iq ≠ 0 → iq ≠ 3 → iq ≠ 5 → iq ≠ 6 → iq ≠ 7 → iq ≠ 8 → vq = val.getD iq undef)) := ⟨_, rfl⟩
      have HG := Lib.hid hG0
      clear hG0
      refine region_inv (NS lit 6 (fun p q => (p == 6 && q == 3) || (p == 6 && q == 5) || (p == 3 && q == 0) || (p == 3 && q == 2) || (p == 5 && q == 4) || (p == 7 && q == 6) || (p == 8 && q == 7) || (p == 7 && q == 6) || (p == 8 && q == 6)) G fun bq wv => (bq = false → Below wr.heap.size wr wv) ∧ (bq = true → Below w.heap.size w wv ∧ ZbS wv (w.heap.size + 1 + 1))) (by kernel_rfl) (by decide +kernel) ?_ ?_ ?_
      · exact NS.start (fun i => ([undef, undef, undef, undef, undef, undef, undef, undef, undef, u5] : List Value).getD i undef) (by rw [HLIT.out]; rfl) ⟨fun _ => below_drew _ _, fun h => (by cases h)⟩
      · refine ⟨?_, ?_, ?_, ?_, ?_, ?_, ?_, ?_, ?_, ?_, trivial⟩
        · intro bf ac wv hfb haf hJ K' hK
          obtain ⟨vs, rfl, ja, hB, j4⟩ := hJ
          replace hK := Lib.hid hK
          rw [HG.out] at j4
          have hd : bf 6 = false := by
            cases h : bf 6
            · rfl
            · exact absurd ((ja 3 0 rfl (ja 6 3 rfl h)).symm.trans hfb) (by simp)
          have hM := Lib.hid (hB.1 hd)
          replace j4 := Lib.hid (And.intro ja j4)
          replace hB := Lib.hid hB
          clear ja haf
          rw [HLIT.out]
          go_simp
          have b4 := al wv (.cells #[] 27)
          exact hK.out _ _ (NS.next (wv := wv) (vs := vs) 0 (by omega) (fun q h => absurd h (by simp)) (x := (.slice (some ⟨wv.heap.size, 0, none⟩) 0 0)) (by rw [HLIT.out]; rfl) (by rw [HG.out]; exact j4.out) ⟨fun _ => keep2 b4 hM.out, fun e => absurd (e.symm.trans hd) (by simp)⟩ (by rw [HG.out]; exact fun k hbk h => ⟨fun q => (by obtain ⟨g8, q1, q2⟩ := (h.1 q); exact ⟨g8, q1, fun e => row_step (q2 e) b4⟩), fun q => (by obtain ⟨a8, c8, q1, q2⟩ := (h.2.1 q); exact ⟨a8, c8, q1, fun e => row_step (q2 e) b4⟩), fun q => (h.2.2.1 q).step b4, fun q => (by obtain ⟨a8, c8, q1, q2⟩ := (h.2.2.2.1 q); exact ⟨a8, c8, q1, fun e => absurd (e.symm.trans hd) (by simp)⟩), fun q => (by obtain ⟨ua, uc, fa, fc, q1, q2⟩ := (h.2.2.2.2.1 q); exact ⟨ua, uc, fa, fc, q1, fun e => absurd (e.symm.trans hd) (by simp)⟩), fun q => (fun e => absurd (e.symm.trans hd) (by simp)), h.2.2.2.2.2.2⟩) (by rw [HG.out]; exact ⟨fun _ => ⟨wv.heap.size, rfl, fun _ => ⟨rfl, .inr ⟨wv.heap.size, 0, _, rfl, hM.out.size, heap_alloc_new _ _, by omega, by unfold maxLen; omega, rfl, rfl⟩⟩⟩, fun h => absurd h (by decide), fun h => absurd h (by decide), fun h => absurd h (by decide), fun h => absurd h (by decide), fun h => absurd h (by decide), fun h0 => absurd rfl h0⟩))
        · intro bf ac wv hfb haf hJ K' hK
          obtain ⟨vs, rfl, ja, hB, j4⟩ := hJ
          replace hK := Lib.hid hK
          rw [HG.out] at j4
          replace j4 := Lib.hid (And.intro ja j4)
          replace hB := Lib.hid hB
          clear ja haf
          rw [HLIT.out]
          go_simp
          exact hK.out _ _ (NS.next (wv := wv) (vs := vs) 1 (by omega) (fun q h => absurd h (by simp)) (x := .pointer (some ⟨(w.heap.size), 1, none⟩)) (by rw [HLIT.out]; rfl) (by rw [HG.out]; exact j4.out) hB.out (by rw [HG.out]; exact fun _ _ h => h) (by rw [HG.out]; exact ⟨fun h => absurd h (by decide), fun h => absurd h (by decide), fun h => absurd h (by decide), fun h => absurd h (by decide), fun h => absurd h (by decide), fun h => absurd h (by decide), fun _ _ _ _ _ _ => E1.out.symm⟩))
        · intro bf ac wv hfb haf hJ K' hK
          obtain ⟨vs, rfl, ja, hB, j4⟩ := hJ
          replace hK := Lib.hid hK
          simp [Region.binds] at haf
          rw [HG.out] at j4
          have e1 := ((j4 1 (by simp [haf])).2.2.2.2.2.2 (by decide) (by decide) (by decide) (by decide) (by decide) (by decide)).trans E1.out
          have hd : bf 6 = false := by
            cases h : bf 6
            · rfl
            · exact absurd ((ja 3 2 rfl (ja 6 3 rfl h)).symm.trans hfb) (by simp)
          have hM := Lib.hid (hB.1 hd)
          replace j4 := Lib.hid (And.intro ja j4)
          replace hB := Lib.hid hB
          clear ja haf
          have xb1 := (H46.out.step hM.out).c 1 rfl
          have xbz := (H46.out.step hM.out).2.2
          rw [HLIT.out]
          go_simp
          exact hK.out _ _ (NS.next (wv := wv) (vs := vs) 2 (by omega) (fun q h => absurd h (by simp)) (x := .slice (some ⟨b1, o1, none⟩) L.length sc) (by rw [HLIT.out]; simp only [upv, e1, Nat.reduceBEq, cond_true, cond_false]) (by rw [HG.out]; exact j4.out) hB.out (by rw [HG.out]; exact fun _ _ h => h) (by rw [HG.out]; exact ⟨fun h => absurd h (by decide), fun h => absurd h (by decide), fun h => absurd h (by decide), fun h => absurd h (by decide), fun h => absurd h (by decide), fun h => absurd h (by decide), fun _ _ _ _ _ _ => E2.out.symm⟩))
        · intro bf ac wv hfb haf hJ K' hK
          obtain ⟨vs, rfl, ja, hB, j4⟩ := hJ
          replace hK := Lib.hid hK
          simp [Region.binds] at haf
          rw [HG.out] at j4
          have e0 := (j4 0 (by simp [haf])).1 rfl
          have e2 := ((j4 2 (by simp [haf])).2.2.2.2.2.2 (by decide) (by decide) (by decide) (by decide) (by decide) (by decide)).trans E2.out
          have hd : bf 6 = false := by
            cases h : bf 6
            · rfl
            · exact absurd ((ja 6 3 rfl h).symm.trans hfb) (by simp)
          have hM := Lib.hid (hB.1 hd)
          have HA := Lib.hid (show ∀ q, (fun p q => (p == 6 && q == 3) || (p == 6 && q == 5) || (p == 3 && q == 0) || (p == 3 && q == 2) || (p == 5 && q == 4) || (p == 7 && q == 6) || (p == 8 && q == 7) || (p == 7 && q == 6) || (p == 8 && q == 6)) 3 q = true → bf q = true from fun q hi => by
            obtain rfl | rfl : q = 0 ∨ q = 2 := by simpa [or_assoc] using hi
            all_goals simp [haf])
          replace j4 := Lib.hid (And.intro ja j4)
          replace hB := Lib.hid hB
          clear ja haf
          obtain ⟨g0, e0, hr0⟩ := e0
          replace hr0 := hr0 hd
          rw [e0] at hr0
          obtain ⟨a3, c3, w3, hr3, b4, ho3⟩ := app_nil (H45.out.2.step hM.out) hr0 HL9.out hM.out.size
          rw [HLIT.out]
          refine step_app rfl _ _ 23 rfl _ _ _ e0 e2 hr3 ?_
          exact hK.out _ _ (NS.next (wv := wv) (vs := vs) 3 (by omega) (HA.out) (x := (.slice a3 L.length c3)) (by rw [HLIT.out]; rfl) (by rw [HG.out]; exact j4.out) ⟨fun _ => keep2 b4 hM.out, fun e => absurd (e.symm.trans hd) (by simp)⟩ (by rw [HG.out]; exact fun k hbk h => ⟨fun q => (by obtain ⟨g8, q1, q2⟩ := (h.1 q); exact ⟨g8, q1, fun e => row_step (q2 e) b4⟩), fun q => (by obtain ⟨a8, c8, q1, q2⟩ := (h.2.1 q); exact ⟨a8, c8, q1, fun e => row_step (q2 e) b4⟩), fun q => (h.2.2.1 q).step b4, fun q => (by obtain ⟨a8, c8, q1, q2⟩ := (h.2.2.2.1 q); exact ⟨a8, c8, q1, fun e => absurd (e.symm.trans hd) (by simp)⟩), fun q => (by obtain ⟨ua, uc, fa, fc, q1, q2⟩ := (h.2.2.2.2.1 q); exact ⟨ua, uc, fa, fc, q1, fun e => absurd (e.symm.trans hd) (by simp)⟩), fun q => (fun e => absurd (e.symm.trans hd) (by simp)), h.2.2.2.2.2.2⟩) (by rw [HG.out]; exact ⟨fun h => absurd h (by decide), fun _ => ⟨a3, c3, rfl, fun _ => ho3⟩, fun h => absurd h (by decide), fun h => absurd h (by decide), fun h => absurd h (by decide), fun h => absurd h (by decide), fun h0 => fun h3 => absurd rfl h3⟩))
        · intro bf ac wv hfb haf hJ K' hK
          obtain ⟨vs, rfl, ja, hB, j4⟩ := hJ
          replace hK := Lib.hid hK
          rw [HG.out] at j4
          have hd : bf 6 = false := by
            cases h : bf 6
            · rfl
            · exact absurd ((ja 5 4 rfl (ja 6 5 rfl h)).symm.trans hfb) (by simp)
          have hM := Lib.hid (hB.1 hd)
          replace j4 := Lib.hid (And.intro ja j4)
          replace hB := Lib.hid hB
          clear ja haf
          have xo0 := (H47.out.step hM.out).c 0 rfl
          have xo1 := (H47.out.step hM.out).c 1 rfl
          have xo2 := (H47.out.step hM.out).c 2 rfl
          have xo3 := (H47.out.step hM.out).c 3 rfl
          have xoz := (H47.out.step hM.out).2.2
          rw [HLIT.out]
          go_simp
          exact hK.out _ _ (NS.next (wv := wv) (vs := vs) 4 (by omega) (fun q h => absurd h (by simp)) (x := .agg #[.int .i64 o.a, .int .i64 o.b, .int .i64 o.c, .int .i64 o.d]) (by rw [HLIT.out]; rfl) (by rw [HG.out]; exact j4.out) hB.out (by rw [HG.out]; exact fun _ _ h => h) (by rw [HG.out]; exact ⟨fun h => absurd h (by decide), fun h => absurd h (by decide), fun h => absurd h (by decide), fun h => absurd h (by decide), fun h => absurd h (by decide), fun h => absurd h (by decide), fun _ _ _ _ _ _ => E4.out.symm⟩))
        · intro bf ac wv hfb haf hJ K' hK
          obtain ⟨vs, rfl, ja, hB, j4⟩ := hJ
          replace hK := Lib.hid hK
          simp [Region.binds] at haf
          rw [HG.out] at j4
          have e4 := ((j4 4 (by simp [haf])).2.2.2.2.2.2 (by decide) (by decide) (by decide) (by decide) (by decide) (by decide)).trans E4.out
          have hd : bf 6 = false := by
            cases h : bf 6
            · rfl
            · exact absurd ((ja 6 5 rfl h).symm.trans hfb) (by simp)
          have hM := Lib.hid (hB.1 hd)
          have HA := Lib.hid (show ∀ q, (fun p q => (p == 6 && q == 3) || (p == 6 && q == 5) || (p == 3 && q == 0) || (p == 3 && q == 2) || (p == 5 && q == 4) || (p == 7 && q == 6) || (p == 8 && q == 7) || (p == 7 && q == 6) || (p == 8 && q == 6)) 5 q = true → bf q = true from fun q hi => by
            obtain rfl : q = 4 := by simpa [or_assoc] using hi
            all_goals simp [haf])
          replace j4 := Lib.hid (And.intro ja j4)
          replace hB := Lib.hid hB
          clear ja haf
          rw [HLIT.out]
          go_simp
          have b4 := al wv (.cells #[.int .i64 o.a, .int .i64 o.b, .int .i64 o.c, .int .i64 o.d] 27)
          exact hK.out _ _ (NS.next (wv := wv) (vs := vs) 5 (by omega) (HA.out) (x := (.slice (some ⟨wv.heap.size, 0, none⟩) 1 1)) (by rw [HLIT.out]; simp only [upv, e4, Nat.reduceBEq, cond_true, cond_false]) (by rw [HG.out]; exact j4.out) ⟨fun _ => keep2 b4 hM.out, fun e => absurd (e.symm.trans hd) (by simp)⟩ (by rw [HG.out]; exact fun k hbk h => ⟨fun q => (by obtain ⟨g8, q1, q2⟩ := (h.1 q); exact ⟨g8, q1, fun e => row_step (q2 e) b4⟩), fun q => (by obtain ⟨a8, c8, q1, q2⟩ := (h.2.1 q); exact ⟨a8, c8, q1, fun e => row_step (q2 e) b4⟩), fun q => (h.2.2.1 q).step b4, fun q => (by obtain ⟨a8, c8, q1, q2⟩ := (h.2.2.2.1 q); exact ⟨a8, c8, q1, fun e => absurd (e.symm.trans hd) (by simp)⟩), fun q => (by obtain ⟨ua, uc, fa, fc, q1, q2⟩ := (h.2.2.2.2.1 q); exact ⟨ua, uc, fa, fc, q1, fun e => absurd (e.symm.trans hd) (by simp)⟩), fun q => (fun e => absurd (e.symm.trans hd) (by simp)), h.2.2.2.2.2.2⟩) (by rw [HG.out]; exact ⟨fun h => absurd h (by decide), fun h => absurd h (by decide), fun _ => ⟨wv.heap.size, rfl, fun _ => BoxN.new wv #[.int .i64 o.a, .int .i64 o.b, .int .i64 o.c, .int .i64 o.d] 27⟩, fun h => absurd h (by decide), fun h => absurd h (by decide), fun h => absurd h (by decide), fun h0 => fun h3 => fun h5 => absurd rfl h5⟩))
        · intro bf ac wv hfb haf hJ K' hK
          obtain ⟨vs, rfl, ja, hB, j4⟩ := hJ
          replace hK := Lib.hid hK
          simp [Region.binds] at haf
          rw [HG.out] at j4
          have e3 := (j4 3 (by simp [haf])).2.1 rfl
          have e5 := (j4 5 (by simp [haf])).2.2.1 rfl
          rw [hfb] at j4 hB
          try rw [hfb] at e3
          try rw [hfb] at e5
          have HA := Lib.hid (show ∀ q, (fun p q => (p == 6 && q == 3) || (p == 6 && q == 5) || (p == 3 && q == 0) || (p == 3 && q == 2) || (p == 5 && q == 4) || (p == 7 && q == 6) || (p == 8 && q == 7) || (p == 7 && q == 6) || (p == 8 && q == 6)) 6 q = true → bf q = true from fun q hi => by
            obtain rfl | rfl : q = 3 ∨ q = 5 := by simpa [or_assoc] using hi
            all_goals simp [haf])
          have hz7 : bf 7 = false := by
            cases h : bf 7
            · rfl
            · exact absurd ((ja 7 6 rfl h).symm.trans hfb) (by simp)
          have hz8 : bf 8 = false := by
            cases h : bf 8
            · rfl
            · exact absurd ((ja 8 6 rfl h).symm.trans hfb) (by simp)
          have hM := Lib.hid (hB.1 rfl)
          replace j4 := Lib.hid j4
          have HE := Lib.hid (And.intro ja HA.out)
          clear ja haf hB HA
          obtain ⟨a3, c3, e3, hr3⟩ := e3
          replace hr3 := hr3 rfl
          obtain ⟨g5, e5, hbx⟩ := e5
          replace hbx := hbx rfl
          rw [e3] at hr3
          obtain ⟨a6, c6, w6, hr6, hg6, ho6, -⟩ := app_rowE (x := o) hr3 hbx HL9.out HLX.out hM.out.size
          have hBW : Below wr.heap.size wr w6 := (hM.out).grown hg6 hM.out.size fun k ek => by
            obtain ⟨o9, -, h9⟩ := own_someE hr3 ek.symm
            exact h9
          rw [HLIT.out]
          refine step_app rfl _ _ 23 rfl _ _ _ e3 e5 hr6 ?_
          refine hK.out _ _ (NS.piv (vs := vs) (x := .slice a6 LX.length c6) (by rw [HLIT.out]; rfl) HE.out ⟨fun e => (by cases e), fun _ => ⟨keep2 hBW H50.out, HZB.out.step hBW⟩⟩ (fun j hj hb => ?_) (by rw [HG.out]; exact ⟨fun h => absurd h (by decide), fun h => absurd h (by decide), fun h => absurd h (by decide), fun _ => ⟨a6, c6, rfl, fun _ => ⟨ints_nil _, ods_of_row rfl ho6⟩⟩, fun h => absurd h (by decide), fun h => absurd h (by decide), fun h0 => fun h3 => fun h5 => fun h6 => absurd rfl h6⟩))
          rw [HG.out]
          have q := j4.out j hb
          refine ⟨fun h => ?_, fun h => ?_, fun h => (q.2.2.1 h).put _, fun h => absurd h hj, fun h => (by rw [h, hz7] at hb; cases hb), fun h => (by rw [h, hz8] at hb; cases hb), q.2.2.2.2.2.2⟩
          · obtain ⟨g8, q1, -⟩ := q.1 h
            exact ⟨g8, q1, fun e => (by cases e)⟩
          · obtain ⟨a8, c8, q1, -⟩ := q.2.1 h
            exact ⟨a8, c8, q1, fun e => (by cases e)⟩
        · intro bf ac wv hfb haf hJ K' hK
          obtain ⟨vs, rfl, ja, hB, j4⟩ := hJ
          replace hK := Lib.hid hK
          simp [Region.binds] at haf
          rw [HG.out] at j4
          have e6 := (j4 6 (by simp [haf])).2.2.2.1 rfl
          have hb6 : bf 6 = true := by simp [haf]
          obtain ⟨a6, c6, e6, h6⟩ := e6
          replace h6 := Lib.hid (h6 hb6)
          have HMB := Lib.hid (hB.2 hb6)
          replace j4 := Lib.hid (And.intro ja j4)
          clear ja haf hB
          rw [HLIT.out]
          go_simp
          go_at_call 42
          refine (of_any a6 c6 LX _ h6.out.2 HLM.out).mono ?_
          rintro e w4 ⟨ua, uc, rfl, b4, hr4⟩
          refine hK.out _ _ (NS.next (wv := wv) (vs := vs) 7 (by omega) (fun q h => by
            obtain rfl : q = 6 := by simpa using h
            exact hb6) (x := .agg #[.slice ua (rvl LX).length uc, .slice a6 LX.length c6]) (by rw [HLIT.out]; simp only [upv, e6, Nat.reduceBEq, cond_true, cond_false]) (by rw [HG.out]; exact j4.out) ⟨fun e => absurd (e.symm.trans hb6) (by simp), fun _ => ⟨keep2 b4 HMB.out.1, HMB.out.2.step b4⟩⟩ ?_ (by rw [HG.out]; exact ⟨fun h => absurd h (by decide), fun h => absurd h (by decide), fun h => absurd h (by decide), fun h => absurd h (by decide), fun _ => ⟨ua, uc, a6, c6, rfl, fun _ => hr4⟩, fun h => absurd h (by decide), fun h0 => fun h3 => fun h5 => fun h6 => fun h7 => absurd rfl h7⟩))
          rw [HG.out, hb6]
          intro kk hbk hh
          refine ⟨fun q => ?_, fun q => ?_, fun q => (hh.2.2.1 q).put _, fun q => ?_, fun q => ?_, fun q => ?_, hh.2.2.2.2.2.2⟩
          · obtain ⟨g8, q1, -⟩ := hh.1 q
            exact ⟨g8, q1, fun e => (by cases e)⟩
          · obtain ⟨a8, c8, q1, -⟩ := hh.2.1 q
            exact ⟨a8, c8, q1, fun e => (by cases e)⟩
          · obtain ⟨a8, c8, q1, q2⟩ := hh.2.2.2.1 q
            exact ⟨a8, c8, q1, fun e => Rb.step (q2 e) b4⟩
          · subst q; rw [hfb] at hbk; cases hbk
          · subst q; exact absurd ((j4.out.1 8 7 rfl hbk).symm.trans hfb) (by simp)
        · intro bf ac wv hfb haf hJ K' hK
          obtain ⟨vs, rfl, ja, hB, j4⟩ := hJ
          replace hK := Lib.hid hK
          simp [Region.binds] at haf
          rw [HG.out] at j4
          have e7 := (j4 7 (by simp [haf])).2.2.2.2.1 rfl
          have hb7 : bf 7 = true := by simp [haf]
          have hb6 : bf 6 = true := ja 7 6 rfl hb7
          obtain ⟨ua, uc, fa, fc, e7, h7⟩ := e7
          replace h7 := Lib.hid (h7 hb6)
          have HMB := Lib.hid (hB.2 hb6)
          replace j4 := Lib.hid (And.intro ja j4)
          clear ja haf hB
          obtain ⟨za, zc, zn, zm, zp, zq, hbx⟩ := HMB.out.2
          replace hbx := Lib.hid hbx
          have x0 := (cs_of_box hbx.out).c 0 rfl
          have x1 := (cs_of_box hbx.out).c 1 rfl
          have y0 := (cs_of_box hbx.out).f 0 (by simp)
          have y1 := (cs_of_box hbx.out).f 1 (by simp)
          have xz := (cs_of_box hbx.out).2.2
          rw [HLIT.out]
          go_simp
          have hcg := putB_chg wv (w.heap.size + 1 + 1) (.slice ua (rvl LX).length uc) (.slice fa LX.length fc)
          have hsl := sl_of hbx.out
          have hbn := putB_box hbx.out (.slice ua (rvl LX).length uc) (.slice fa LX.length fc)
          refine hK.out _ _ (NS.next (wv := wv) (vs := vs) (w' := putB wv (w.heap.size + 1 + 1) (.slice ua (rvl LX).length uc) (.slice fa LX.length fc)) 8 (by omega) (fun q h => by
            obtain rfl | rfl : q = 7 ∨ q = 6 := by simpa using h
            · exact hb7
            · exact hb6) (x := undef) (by rw [HLIT.out]; simp only [upv, e7, Nat.reduceBEq, cond_false]) (by rw [HG.out]; exact j4.out) ⟨fun e => absurd (e.symm.trans hb6) (by simp), fun _ => ⟨HMB.out.1.trans (putB_below _ _ HZW.out), ⟨_, _, _, _, _, _, hbn⟩⟩⟩ ?_ (by rw [HG.out]; exact ⟨fun h => absurd h (by decide), fun h => absurd h (by decide), fun h => absurd h (by decide), fun h => absurd h (by decide), fun h => absurd h (by decide), fun _ => fun _ => ⟨ua, uc, fa, fc, hbn, Rb.kept h7.out hcg hsl⟩, fun h0 => fun h3 => fun h5 => fun h6 => fun h7 => fun h8 => absurd rfl h8⟩))
          rw [HG.out, hb6]
          intro kk hbk hh
          refine ⟨fun q => ?_, fun q => ?_, fun q => (hh.2.2.1 q).put _, fun q => ?_, fun q => ?_, fun q => ?_, hh.2.2.2.2.2.2⟩
          · obtain ⟨g8, q1, -⟩ := hh.1 q
            exact ⟨g8, q1, fun e => (by cases e)⟩
          · obtain ⟨a8, c8, q1, -⟩ := hh.2.1 q
            exact ⟨a8, c8, q1, fun e => (by cases e)⟩
          · obtain ⟨a8, c8, q1, q2⟩ := hh.2.2.2.1 q
            exact ⟨a8, c8, q1, fun e => Rb.kept (q2 e) hcg hsl⟩
          · obtain ⟨ua8, uc8, fa8, fc8, q1, q2⟩ := hh.2.2.2.2.1 q
            exact ⟨ua8, uc8, fa8, fc8, q1, fun e => Rb.kept (q2 e) hcg hsl⟩
          · subst q; rw [hfb] at hbk; cases hbk
        · intro bf ac wv hfb haf hJ K' hK
          obtain ⟨vs, rfl, ja, hB, j4⟩ := hJ
          replace hK := Lib.hid hK
          rw [HG.out] at j4
          replace j4 := Lib.hid (And.intro ja j4)
          replace hB := Lib.hid hB
          clear ja haf
          rw [HLIT.out]
          go_simp
          exact hK.out _ _ (NS.next (wv := wv) (vs := vs) 9 (by omega) (fun q h => absurd h (by simp)) (x := .int .i64 0) (by rw [HLIT.out]; rfl) (by rw [HG.out]; exact j4.out) hB.out (by rw [HG.out]; exact fun _ _ h => h) (by rw [HG.out]; exact ⟨fun h => absurd h (by decide), fun h => absurd h (by decide), fun h => absurd h (by decide), fun h => absurd h (by decide), fun h => absurd h (by decide), fun h => absurd h (by decide), fun _ _ _ _ _ _ => E9.out.symm⟩))
      · intro bf ac wv hall hJ
        obtain ⟨vs, rfl, -, hB, j4⟩ := hJ
        rw [HG.out] at j4
        rw [hall 6 (by decide)] at hB j4
        have hM := Lib.hid (hB.2 rfl)
        clear hB
        have e9 := ((j4 9 (hall 9 (by decide))).2.2.2.2.2.2 (by decide) (by decide) (by decide) (by decide) (by decide) (by decide)).trans E9.out
        obtain ⟨ua, uc, fa, fc, hbn, hrb⟩ := (j4 8 (hall 8 (by decide))).2.2.2.2.2.1 rfl rfl
        have HB9 := Lib.hid hM.out.1
        have HRB9 := Lib.hid hrb
        have k0 := (cs_of_box hbn).c 0 rfl
        have k1 := (cs_of_box hbn).c 1 rfl
        clear hM j4 hall hbn hrb
        rw [HLIT.out]
        dsimp only
        rw [e9]
        clear e9
        go_wp2
        exact bodyPost_ret (v := .tuple #[.agg #[.slice ua (rvl LX).length uc, .slice fa LX.length fc], .int .i64 0]) (by simp [results, Try.results12, go_sem, k0, k1]) rfl (.inr (.inr (.inr ⟨HAX.out, HBX.out, HG8.out, by rw [HLQ.out]; exact ⟨ua, uc, fa, fc, rfl, HB9.out, HRB9.out⟩⟩)))
    have HIL := Lib.hid hlt
    have HRA := Lib.hid (snA_step (o := o) hlt)
    have HRB := Lib.hid (snB_step (o := o) hlt)
    have HRF := Lib.hid (rs_fl hlt)
    have HHT := Lib.hid (snA_hit (o := o) hlt)
    have hi300 : i ≤ 300 := by have := HLn.out; omega
    obtain ⟨x, hx⟩ : ∃ z9, L.getD i zO = z9 := ⟨_, rfl⟩
    have HXX := Lib.hid hx
    rw [hx] at HRA HRB HRF HHT
    clear hx
    have t1 : (i : Int) < (L.length : Int) := by omega
    have xb0 : wr.cell? ⟨(w.heap.size), 0, none⟩ = some (.slice va V.length vc) := H46.out.c 0 rfl
    have xb1 : wr.cell? ⟨(w.heap.size), 1, none⟩ = some (.slice (some ⟨b1, o1, none⟩) L.length sc) := H46.out.c 1 rfl
    have zb : (w.heap.size) < wr.heap.size := H46.out.2.2
    have xo0 : wr.cell? ⟨(w.heap.size + 1), 0, none⟩ = some (.int .i64 o.a) := H47.out.c 0 rfl
    have xo1 : wr.cell? ⟨(w.heap.size + 1), 1, none⟩ = some (.int .i64 o.b) := H47.out.c 1 rfl
    have xo2 : wr.cell? ⟨(w.heap.size + 1), 2, none⟩ = some (.int .i64 o.c) := H47.out.c 2 rfl
    have xo3 : wr.cell? ⟨(w.heap.size + 1), 3, none⟩ = some (.int .i64 o.d) := H47.out.c 3 rfl
    have zo : (w.heap.size + 1) < wr.heap.size := H47.out.2.2
    obtain ⟨x0, x1, x2, x3⟩ : wr.cell? ⟨b1, o1 + i * 4, none⟩ = some (.int .i64 x.a) ∧ wr.cell? ⟨b1, o1 + i * 4 + 1, none⟩ = some (.int .i64 x.b) ∧ wr.cell? ⟨b1, o1 + i * 4 + 2, none⟩ = some (.int .i64 x.c) ∧ wr.cell? ⟨b1, o1 + i * 4 + 3, none⟩ = some (.int .i64 x.d) := by
      obtain ⟨a2, cc2, hv2, -, -, hcs2⟩ := H45.out.2
      have ea : some (⟨b1, o1, none⟩ : Addr) = a2 := by simp at hv2; exact hv2.1
      obtain ⟨b2, o2, hx, hx2⟩ := hcs2 (by intro e; have := HIL.out; rw [e] at this; simp at this)
      rw [← ea] at hx
      cases hx
      have g := hx2 i _ (od_get HIL.out)
      rw [HXX.out] at g
      exact g
    have xz := World.block_lt_of_cell? _ _ x0
    go_upto_region 8 with fail
    go_cut [52] from 44 to 51 (fun p wc => p = .bool (decide (o.a ≤ x.a)) ∧ Below wr.heap.size wr wc)
    case first =>
      by_cases g1 : o.a ≤ x.a
      · have g2 : decide (o.a ≤ x.a) = true := decide_eq_true g1
        have HD := Lib.hid g2
        go_quiet (fail)
        go_wp2
        go_meet
        exact ⟨by rw [HD.out], below_drewN' _ _ _⟩
      · have g2 : decide (o.a ≤ x.a) = false := decide_eq_false g1
        have HD := Lib.hid g2
        go_quiet (fail)
        go_wp2
        go_meet
        exact ⟨by rw [HD.out], below_drewN' _ _ _⟩
    case rest =>
      obtain ⟨rfl, bw⟩ := hcut
      clear xb0 xb1 zb xo0 xo1 xo2 xo3 zo x0 x1 x2 x3 xz
      have H51 := Lib.hid (H45.out.step bw)
      clear H45
      have H52 := Lib.hid (H46.out.step bw)
      clear H46
      have H53 := Lib.hid (H47.out.step bw)
      clear H47
      have H54 := Lib.hid (H48.out.step bw)
      clear H48
      have H55 := Lib.hid (H49.out.step bw)
      clear H49
      have H56 := Lib.hid (keep2 bw HW.out)
      clear HW
      have H57 := Lib.hid (keep2 bw H50.out)
      clear H50
      clear bw
      obtain ⟨W4, hW4⟩ : ∃ z9, wc = z9 := ⟨_, rfl⟩
      rw [hW4] at H51 H52 H53 H54 H55 H56 H57 ⊢
      clear hW4
      cases g1 : decide (o.a ≤ x.a)
      rotate_left
      · skip
        have xz0 : W4.cell? ⟨(w.heap.size + 1 + 1), 0, none⟩ = some (.slice none 0 0) := H54.out.c 0 rfl
        have xz1 : W4.cell? ⟨(w.heap.size + 1 + 1), 1, none⟩ = some (.slice none 0 0) := H54.out.c 1 rfl
        have zz : (w.heap.size + 1 + 1) < W4.heap.size := H54.out.2.2
        have fz0 : W4.frozen? ⟨(w.heap.size + 1 + 1), 0, none⟩ = false := H54.out.f 0 (by simp)
        have fz1 : W4.frozen? ⟨(w.heap.size + 1 + 1), 1, none⟩ = false := H54.out.f 1 (by simp)
        go_wp2
        refine (fun (h : ∀ X : World, Cs X (w.heap.size + 1 + 1) #[.slice none 0 0, .slice none 0 0] → Chg (w.heap.size + 1 + 1) W4 X → bodyPost Try.prog Try.f12 _ Exit.ret _ X) => h _ (Cs.set (Cs.set H54.out 0 (by simp) (.slice none 0 0) rfl) 1 (by simp) (.slice none 0 0) (vs' := #[.slice none 0 0, .slice none 0 0]) rfl) (((Chg.of (Below.refl _ W4)).set 0 _).set 1 _)) ?_
        intro X hC hB
        have k0 : X.cell? ⟨(w.heap.size + 1 + 1), 0, none⟩ = some (.slice none 0 0) := hC.c 0 rfl
        have k1 : X.cell? ⟨(w.heap.size + 1 + 1), 1, none⟩ = some (.slice none 0 0) := hC.c 1 rfl
        exact bodyPost_ret (v := .tuple #[.agg #[.slice none 0 0, .slice none 0 0], .int .i64 1]) (by simp [results, Try.results12, go_sem, k0, k1]) rfl (.inl ⟨HHT.out g1, rfl, H57.out.trans (hB.below (by omega) H57.out.size)⟩)
      have HRA2 := Lib.hid (show snA o (L.take (i + 1)) = false by rw [HRA.out, HA.out, g1]; rfl)
      have xb0 : W4.cell? ⟨(w.heap.size), 0, none⟩ = some (.slice va V.length vc) := H52.out.c 0 rfl
      have xb1 : W4.cell? ⟨(w.heap.size), 1, none⟩ = some (.slice (some ⟨b1, o1, none⟩) L.length sc) := H52.out.c 1 rfl
      have zb : (w.heap.size) < W4.heap.size := H52.out.2.2
      have xo0 : W4.cell? ⟨(w.heap.size + 1), 0, none⟩ = some (.int .i64 o.a) := H53.out.c 0 rfl
      have xo1 : W4.cell? ⟨(w.heap.size + 1), 1, none⟩ = some (.int .i64 o.b) := H53.out.c 1 rfl
      have xo2 : W4.cell? ⟨(w.heap.size + 1), 2, none⟩ = some (.int .i64 o.c) := H53.out.c 2 rfl
      have xo3 : W4.cell? ⟨(w.heap.size + 1), 3, none⟩ = some (.int .i64 o.d) := H53.out.c 3 rfl
      have zo : (w.heap.size + 1) < W4.heap.size := H53.out.2.2
      obtain ⟨x0, x1, x2, x3⟩ : W4.cell? ⟨b1, o1 + i * 4, none⟩ = some (.int .i64 x.a) ∧ W4.cell? ⟨b1, o1 + i * 4 + 1, none⟩ = some (.int .i64 x.b) ∧ W4.cell? ⟨b1, o1 + i * 4 + 2, none⟩ = some (.int .i64 x.c) ∧ W4.cell? ⟨b1, o1 + i * 4 + 3, none⟩ = some (.int .i64 x.d) := by
        obtain ⟨a2, cc2, hv2, -, -, hcs2⟩ := H51.out.2
        have ea : some (⟨b1, o1, none⟩ : Addr) = a2 := by simp at hv2; exact hv2.1
        obtain ⟨b2, o2, hx, hx2⟩ := hcs2 (by intro e; have := HIL.out; rw [e] at this; simp at this)
        rw [← ea] at hx
        cases hx
        have g := hx2 i _ (od_get HIL.out)
        rw [HXX.out] at g
        exact g
      have xz := World.block_lt_of_cell? _ _ x0
      go_upto_region 10 with fail
      go_cut [6] from 54 to 65 (fun p wc => p = .bool (lo || decide (o.b < x.b)) ∧ Below W4.heap.size W4 wc)
      case first =>
        cases lo
        · by_cases g3 : o.b < x.b
          · have g4 : decide (o.b < x.b) = true := decide_eq_true g3
            have HD := Lib.hid g4
            go_quiet (fail)
            go_wp2
            go_meet
            exact ⟨by rw [HD.out]; rfl, below_drewN' _ _ _⟩
          · have g4 : decide (o.b < x.b) = false := decide_eq_false g3
            have HD := Lib.hid g4
            go_quiet (fail)
            go_wp2
            go_meet
            exact ⟨by rw [HD.out]; rfl, below_drewN' _ _ _⟩
        · go_quiet (fail)
          go_wp2
          go_meet
          exact ⟨by rw [Bool.true_or], below_drewN' _ _ _⟩
      case rest =>
        obtain ⟨rfl, bw⟩ := hcut
        clear xb0 xb1 zb xo0 xo1 xo2 xo3 zo x0 x1 x2 x3 xz
        have H58 := Lib.hid (H51.out.step bw)
        clear H51
        have H59 := Lib.hid (H52.out.step bw)
        clear H52
        have H60 := Lib.hid (H53.out.step bw)
        clear H53
        have H61 := Lib.hid (H54.out.step bw)
        clear H54
        have H62 := Lib.hid (H55.out.step bw)
        clear H55
        have H63 := Lib.hid (keep2 bw H56.out)
        clear H56
        have H64 := Lib.hid (keep2 bw H57.out)
        clear H57
        clear bw
        obtain ⟨W5, hW5⟩ : ∃ z9, wc = z9 := ⟨_, rfl⟩
        rw [hW5] at H58 H59 H60 H61 H62 H63 H64 ⊢
        clear hW5
        have HRB2 := Lib.hid (show snB o (L.take (i + 1)) = (lo || decide (o.b < x.b)) by rw [HRB.out, HO.out])
        obtain ⟨l2, hl2⟩ : ∃ z9, (lo || decide (o.b < x.b)) = z9 := ⟨_, rfl⟩
        rw [hl2] at HRB2 ⊢
        clear hl2
        have xb0 : W5.cell? ⟨(w.heap.size), 0, none⟩ = some (.slice va V.length vc) := H59.out.c 0 rfl
        have xb1 : W5.cell? ⟨(w.heap.size), 1, none⟩ = some (.slice (some ⟨b1, o1, none⟩) L.length sc) := H59.out.c 1 rfl
        have zb : (w.heap.size) < W5.heap.size := H59.out.2.2
        obtain ⟨x0, x1, x2, x3⟩ : W5.cell? ⟨b1, o1 + i * 4, none⟩ = some (.int .i64 x.a) ∧ W5.cell? ⟨b1, o1 + i * 4 + 1, none⟩ = some (.int .i64 x.b) ∧ W5.cell? ⟨b1, o1 + i * 4 + 2, none⟩ = some (.int .i64 x.c) ∧ W5.cell? ⟨b1, o1 + i * 4 + 3, none⟩ = some (.int .i64 x.d) := by
          obtain ⟨a2, cc2, hv2, -, -, hcs2⟩ := H58.out.2
          have ea : some (⟨b1, o1, none⟩ : Addr) = a2 := by simp at hv2; exact hv2.1
          obtain ⟨b2, o2, hx, hx2⟩ := hcs2 (by intro e; have := HIL.out; rw [e] at this; simp at this)
          rw [← ea] at hx
          cases hx
          have g := hx2 i _ (od_get HIL.out)
          rw [HXX.out] at g
          exact g
        have xz := World.block_lt_of_cell? _ _ x0
        go_wp2_with fail
        refine (settledR_any x _).mono ?_
        rintro e u11 ⟨rfl, b11⟩
        clear xb0 xb1 zb x0 x1 x2 x3 xz
        have H65 := Lib.hid (H58.out.step b11)
        clear H58
        have H66 := Lib.hid (H59.out.step b11)
        clear H59
        have H67 := Lib.hid (H60.out.step b11)
        clear H60
        have H68 := Lib.hid (H61.out.step b11)
        clear H61
        have H69 := Lib.hid (H62.out.step b11)
        clear H62
        have H70 := Lib.hid (keep2 b11 H63.out)
        clear H63
        have H71 := Lib.hid (keep2 b11 H64.out)
        clear H64
        clear b11
        cases hst : stB x
        · skip
          have HNE := Lib.hid (show (flt (L.take (i + 1))).length = n + 1 by rw [HRF.out, HN.out, hst]; rfl)
          go_wp2
          go_roundw
          case rel => exact ⟨i + 1, n + 1, l2, HIL.out, by omega, rfl, by go_num, by go_num, HRA2, HRB2, HNE, H70⟩
          case measure => have := HIL.out; simp [intOf]; omega
        have HNE := Lib.hid (show (flt (L.take (i + 1))).length = n by rw [HRF.out, HN.out, hst]; rfl)
        go_wp2
        go_roundw
        case rel => exact ⟨i + 1, n, l2, HIL.out, by omega, rfl, by go_num, by go_num, HRA2, HRB2, HNE, H70⟩
        case measure => have := HIL.out; simp [intOf]; omega
end Go.Proofs.Ytigpopemllamdaa
