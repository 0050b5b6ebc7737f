/- Quiet hours: 'Next'. -/
import Derived.Test.YtmejpmnipejpiaaHg
namespace Go.Proofs.Ytmejpmnipejpiaa
open Go.RowKit
attribute [local go_sem] Oper.semAt_some

theorem gF_is (l : List (Int × Int)) : gF (qF l l.length) = Qm l := funext fun m => qF_day l m
theorem chs_head (g : Int → Bool) (m : Int) : ∀ n, (chs g m n).head? = (nxt g m n).map fun i : Nat => (m + (i : Int) + 1, g (m + (i : Int) + 1))
  | 0 => rfl
  | n + 1 => by
    have ih := chs_head g m n
    unfold nxt
    cases h : nxt g m n with
    | some i =>
      rw [h] at ih
      show (chs g m (n + 1)).head? = some (m + i + 1, g (m + i + 1))
      have ih2 : (chs g m n).head? = some (m + i + 1, g (m + i + 1)) := ih
      rw [chs, List.head?_append, ih2]
      rfl
    | none =>
      rw [h] at ih
      have ih2 : (chs g m n) = [] := List.head?_eq_none_iff.1 ih
      show (chs g m (n + 1)).head? = (if chg g m n = true then some n else none).map fun i : Nat => (m + (i : Int) + 1, g (m + (i : Int) + 1))
      rw [chs, ih2, List.nil_append]
      split <;> rfl
/-- What 'Next' gives. -/
def nxV (l : List (Int × Int)) (m : Int) : Int × Bool := if okL l && inR m then (match nxt (Qm l) m 1440 with | some i => ((i : Int) + 1, true) | none => (0, false)) else (0, false)
theorem nxV_some {l : List (Int × Int)} {m : Int} (h1 : okL l = true) (h2 : inR m = true) {x : Int × Bool} (h : (chs (Qm l) m 1440).head? = some x) : nxV l m = (x.1 - m, true) := by
  rw [chs_head] at h
  unfold nxV
  rw [h1, h2]
  cases hn : nxt (Qm l) m 1440 with
  | none => rw [hn] at h; cases h
  | some i =>
    rw [hn] at h
    have h2 : some (m + i + 1, Qm l (m + i + 1)) = some x := h
    cases h2
    have h3 : (i : Int) + 1 = m + i + 1 - m := by omega
    show ((i : Int) + 1, true) = (m + i + 1 - m, true)
    rw [← h3]
theorem nxV_none {l : List (Int × Int)} {m : Int} (h1 : okL l = true) (h2 : inR m = true) (h : chs (Qm l) m 1440 = []) : nxV l m = (0, false) := by
  have h3 := chs_head (Qm l) m 1440
  rw [h] at h3
  unfold nxV
  rw [h1, h2]
  cases hn : nxt (Qm l) m 1440 with
  | none => rfl
  | some i => rw [hn] at h3; cases h3
section
variable {F : Fence} {n : Nat} {ops : Array Oper} {rest : List Oper} {o : Oper} {a : Act} {w : World} {Q : Exit → Act → World → Prop}
theorem wpListIn_run (hg : o.guard = none) (hc : ∀ c, o.op ≠ .defer c) (hab : o.about Try.prog w a.eval = none) (v : Next) (v' : Value) (w' : World) (hv : v = .value v' ∨ v = .skip ∧ v' = undef) (hr : (execOp a.eval o).run Try.prog w = .ok v w') (h : wpListIn F n Try.prog ops Q rest (a.put o.dst v') w') : wpListIn F n Try.prog ops Q (o :: rest) a w := by
  refine wpListIn_plain hg fun K hK => ?_
  unfold Oper.wpIn
  refine ⟨fun f hf => (by rw [hab] at hf; cases hf), ?_⟩
  rw [Oper.semAt_plain F _ _ (fun c hc' => hc c hc'), hr]
  rcases hv with rfl | ⟨rfl, rfl⟩
  · exact hK _ _ h
  · exact hK _ _ h
theorem wpListIn_alloc45 (hg : o.guard = none) (ho : o.op = .alloc 45) (N : Nat) (hN : w.heap.size = N) (h : wpListIn F n Try.prog ops Q rest (a.put o.dst (.pointer (some ⟨N, 0, none⟩))) (w.alloc (.cells (bArr noB) 45))) : wpListIn F n Try.prog ops Q (o :: rest) a w := by
  subst hN
  refine wpListIn_run hg (by rw [ho]; intro c hc; cases hc) (by simp [Oper.about, ho]) _ _ _ (.inl rfl) ?_ h
  unfold execOp
  simp only [ho, Sem.run_bind, Instr.alloc, (zero_of_info info45).1, newVar, newRow, run_newObj_alloc, Sem.run_pure, Result.andThen_ok]
  rfl
theorem wpListIn_storeN (hg : o.guard = none) (x y : Operand) (ho : o.op = .store 45 x y) (g : Nat) (hx : a.eval x = .pointer (some ⟨g, 0, none⟩)) (f f0 : Nat → Bool) (hy : a.eval y = .agg (bArr f)) (w0 : World) (hw : w = w0.alloc (.cells (bArr f0) 45)) (hgn : g = w0.heap.size) (h : wpListIn F n Try.prog ops Q rest (a.put o.dst undef) (w0.alloc (.cells (bArr f) 45))) : wpListIn F n Try.prog ops Q (o :: rest) a w := by
  subst hw hgn
  refine wpListIn_run hg (by rw [ho]; intro c hc; cases hc) (by simp [Oper.about, ho]) .skip undef _ (.inr ⟨rfl, rfl⟩) ?_ h
  unfold execOp
  simp only [ho, hx, hy, Instr.storeAt, Instr.sureAddr, Sem.run_bind, Sem.run_pure, Result.andThen_ok, run_storeVar_row _ _ 45 45 _ _ (BoxA.new w0 f0 rfl) (size45 f) (by rw [bArr_size, bArr_size]) (bArr_one f)]
  rw [World.setRow_alloc_new]
end
def NxP (l : List (Int × Int)) (m : Int) (w : World) (e : Ending) (w' : World) : Prop := e = .returned (.tuple #[.int .i64 (nxV l m).1, .bool (nxV l m).2]) ∧ Below w.heap.size w w'
theorem boxN_own {β : Type} (B : Nat) (t : TypeId) (f : β → Array Value) : Own (fun s W => BoxN W B (f s) t) := fun s X Y row hs hg hrow =>
  (hg.block B hs.lt (fun e' => by obtain ⟨o, ho, hc⟩ := hrow B e'.symm; rw [show X.heap[B]? = _ from hs] at ho; cases ho; cases hc)).trans hs
theorem BoxN.kept {W W' : World} {row : Option Nat} {B : Nat} {t : TypeId} {vs : Array Value} (h : BoxN W B vs t) (hg : W.grownBy W' row) (hr : ∀ r, row = some r → ∃ o : Obj, W.heap[r]? = some o ∧ o.isCells = false) : BoxN W' B vs t :=
  (hg.block B h.lt (fun e => by obtain ⟨o, ho, hc⟩ := hr B e.symm; rw [show W.heap[B]? = _ from h] at ho; cases ho; cases hc)).trans h
theorem boxN_putObj {W : World} {B : Nat} {t : TypeId} {vs : Array Value} (h : BoxN W B vs t) {D : Nat} {o : Obj} (o' : Obj) (hD : W.heap[D]? = some o) (ho : o.isCells = false) : BoxN (W.putObj D o') B vs t :=
  h.kept (grownBy_putObj' W D o') (fun r e => by cases e; exact ⟨o, hD, ho⟩)
/-- The variables of 'Next' while changes come. -/
def NI (w : World) (m : Int) (n0 : Nat) (pre : List (Int × Bool)) (W : World) : Prop :=
  (((BoxN W w.heap.size #[.int .i64 m] 3 ∧ BoxN W (w.heap.size + 1) #[.int .i64 0] 3) ∧ BoxN W (w.heap.size + 1 + 1) #[.bool false] 4) ∧ pre = []) ∧ Below w.heap.size w W ∧ n0 ≤ W.heap.size
def NX (w : World) (m : Int) (c : Code) (pre : List (Int × Bool)) (W : World) : Prop :=
  ∃ x, (c = .ret ∧ pre = [x]) ∧ (BoxN W (w.heap.size + 1) #[.int .i64 (wrap64 (x.1 - m))] 3 ∧ BoxN W (w.heap.size + 1 + 1) #[.bool true] 4) ∧ Below w.heap.size w W
theorem NI_own (w : World) (m : Int) (n0 : Nat) (B : Nat) (hB : w.heap.size ≤ B) : OwnFrom B (NI w m n0) :=
  OwnFrom.and (OwnFrom.and (OwnFrom.and (OwnFrom.and (Own.from (boxN_own _ _ _) _) (Own.from (boxN_own _ _ _) _)) (Own.from (boxN_own _ _ _) _)) (fun _ _ _ _ h _ _ => h)) (OwnFrom.and (ownFrom_below (Nat.le_refl _) hB) (fun _ _ _ _ h hg _ => Nat.le_trans h hg.size))
theorem NX_own (w : World) (m : Int) (B : Nat) (hB : w.heap.size ≤ B) (c : Code) : OwnFrom B (NX w m c) := fun s X Y row hs hg hr => by
  obtain ⟨x, h1, ⟨h2, h3⟩, h4⟩ := hs
  exact ⟨x, h1, ⟨h2.kept hg (fun r e => (hr r e).2), h3.kept hg (fun r e => (hr r e).2)⟩, ownFrom_below (Nat.le_refl _) hB s X Y row h4 hg hr⟩
set_option maxRecDepth 100000 in
set_option maxHeartbeats 4000000 in
theorem next_no (v : Value) (l : List (Int × Int)) (m : Int) (w : World) (h : WinsAt w v l) (hb : (okL l && inR m) = false) : Calls Try.prog 10 #[v, .int .i64 m] w (NxP l m w) := by
  have HR := Lib.hid (show nxV l m = (0, false) by unfold nxV; rw [hb]; rfl)
  have HL := Lib.hid (h.step (al3 (w := w) (o1 := .cells #[.int .i64 m] 3) (o2 := .cells #[.int .i64 0] 3) (o3 := .cells #[.bool false] 4)))
  have HB := Lib.hid (al3 (w := w) (o1 := .cells #[.int .i64 m] 3) (o2 := .cells #[.int .i64 0] 3) (o3 := .cells #[.bool false] 4))
  have H0 := Lib.hid ((BoxN.new w #[.int .i64 m] 3 rfl).step (al2 (o1 := .cells #[.int .i64 0] 3) (o2 := .cells #[.bool false] 4)))
  have H1 := Lib.hid ((BoxN.new (w.alloc (.cells #[.int .i64 m] 3)) #[.int .i64 0] 3 (n := w.heap.size + 1) (by simp)).step (al _ (.cells #[.bool false] 4)))
  have H2 := Lib.hid (BoxN.new ((w.alloc (.cells #[.int .i64 m] 3)).alloc (.cells #[.int .i64 0] 3)) #[.bool false] 4 (n := w.heap.size + 1 + 1) (by simp))
  clear h
  cases hv : okL l
  · have HV := Lib.hid hv
    clear hv hb
    go_enter Try.func10, Try.ntmps10
    go_wp2_with fail
    refine (valid_q v l _ HL.out _ HV.out).mono ?_
    rintro e w1 ⟨rfl, b1⟩
    have HB1 := Lib.hid (keep2 b1 HB.out)
    have K1 := H1.out.step b1
    have K2 := H2.out.step b1
    have x1 := (K1.cell 0).trans (rfl : _ = some (Value.int .i64 0))
    have x2 := (K2.cell 0).trans (rfl : _ = some (Value.bool false))
    have y1 := K1.frozen 0
    have y2 := K2.frozen 0
    have z1 := K1.lt
    have z2 := K2.lt
    clear b1 K1 K2
    go_wp2
    refine bodyPost_ret (v := .tuple #[.int .i64 0, .bool false]) (by simp [results, Try.results10, go_sem, x1, x2]) rfl ?_
    exact ⟨by rw [HR.out], (HB1.out.setCell (p := ⟨w.heap.size + 1, 0, none⟩) (by simp) _).setCell (p := ⟨w.heap.size + 1 + 1, 0, none⟩) (by simp; omega) _⟩
  · rw [hv, Bool.true_and] at hb
    have HV := Lib.hid hv
    have HI := Lib.hid hb
    clear hv hb
    go_enter Try.func10, Try.ntmps10
    go_wp2_with fail
    refine (valid_q v l _ HL.out _ HV.out).mono ?_
    rintro e w1 ⟨rfl, b1⟩
    have HB1 := Lib.hid (keep2 b1 HB.out)
    have K0 := H0.out.step b1
    have K1 := H1.out.step b1
    have K2 := H2.out.step b1
    have x0 := (K0.cell 0).trans (rfl : _ = some (Value.int .i64 m))
    have x1 := (K1.cell 0).trans (rfl : _ = some (Value.int .i64 0))
    have x2 := (K2.cell 0).trans (rfl : _ = some (Value.bool false))
    have y1 := K1.frozen 0
    have y2 := K2.frozen 0
    have z0 := K0.lt
    have z1 := K1.lt
    have z2 := K2.lt
    clear b1 K0 K1 K2
    go_wp2_with fail
    refine (inR_q m _ HI.out _).mono ?_
    rintro e w' ⟨rfl, rfl⟩
    go_wp2
    refine bodyPost_ret (v := .tuple #[.int .i64 0, .bool false]) (by simp [results, Try.results10, go_sem, x1, x2]) rfl ?_
    exact ⟨by rw [HR.out], (HB1.out.setCell (p := ⟨w.heap.size + 1, 0, none⟩) (by simp) _).setCell (p := ⟨w.heap.size + 1 + 1, 0, none⟩) (by simp; omega) _⟩
set_option maxRecDepth 100000 in
set_option maxHeartbeats 4000000 in
theorem next_in (v : Value) (l : List (Int × Int)) (m : Int) (w : World) (h : WinsAt w v l) (hv : okL l = true) (hi : inR m = true) : CallsIn Fence.wide 9 Try.prog 10 #[v, .int .i64 m] w (NxP l m w) := by
  have HL := Lib.hid (h.step (al3 (w := w) (o1 := .cells #[.int .i64 m] 3) (o2 := .cells #[.int .i64 0] 3) (o3 := .cells #[.bool false] 4)))
  have HB := Lib.hid (al3 (w := w) (o1 := .cells #[.int .i64 m] 3) (o2 := .cells #[.int .i64 0] 3) (o3 := .cells #[.bool false] 4))
  have H0 := Lib.hid ((BoxN.new w #[.int .i64 m] 3 rfl).step (al2 (o1 := .cells #[.int .i64 0] 3) (o2 := .cells #[.bool false] 4)))
  have H1 := Lib.hid ((BoxN.new (w.alloc (.cells #[.int .i64 m] 3)) #[.int .i64 0] 3 (n := w.heap.size + 1) (by simp)).step (al _ (.cells #[.bool false] 4)))
  have H2 := Lib.hid (BoxN.new ((w.alloc (.cells #[.int .i64 m] 3)).alloc (.cells #[.int .i64 0] 3)) #[.bool false] 4 (n := w.heap.size + 1 + 1) (by simp))
  obtain ⟨va, vc, rfl⟩ : ∃ a c, v = .slice a l.length c := (by obtain ⟨a, c, e, -⟩ := h; exact ⟨a, c, e⟩)
  clear h
  have HV := Lib.hid hv
  have HI := Lib.hid hi
  have HM := Lib.hid (inR_iff.1 hi)
  have HO := Lib.hid (okL_parts hv)
  clear hv hi
  refine callsIn_of_wp_marks Try.func10 rfl trivial ?_ rfl
  simp only [Try.ntmps10, List.size_toArray, List.length_cons, List.length_nil, Nat.reduceAdd, Nat.reduceSub, Array.replicate_succ, Array.replicate_zero, List.push_toArray, List.append_toArray, List.nil_append, List.cons_append]
  gi_wp2_with fail
  refine ⟨trivial, ?_⟩
  refine (callsIn_wide.2 (valid_q _ l _ HL.out _ HV.out)).mono ?_
  rintro e w1 ⟨rfl, b1⟩
  have HB1 := Lib.hid (keep2 b1 HB.out)
  have HL1 := Lib.hid (HL.out.step b1)
  have K0 := Lib.hid (H0.out.step b1)
  have K1 := Lib.hid (H1.out.step b1)
  have K2 := Lib.hid (H2.out.step b1)
  clear b1 HB HL H0 H1 H2
  have x0 := (K0.out.cell 0).trans (rfl : _ = some (Value.int .i64 m))
  have z0 := K0.out.lt
  gi_wp2_with fail
  refine ⟨trivial, ?_⟩
  refine (callsIn_wide.2 (inR_q m _ HI.out _)).mono ?_
  rintro e w' ⟨rfl, rfl⟩
  gi_wp2_with fail
  refine ⟨trivial, ?_⟩
  refine (callsIn_wide.2 (quietMin_any _ l _ HL1.out HO.out.2 HO.out.1)).mono ?_
  rintro e w2 ⟨rfl, b2⟩
  clear x0 z0
  have HB2 := Lib.hid ((keep2 b2 HB1.out).alloc (keep2 b2 HB1.out).size (.cells (bArr (qF l l.length)) 45))
  have J0 := Lib.hid ((K0.out.step b2).step (al w2 (.cells (bArr (qF l l.length)) 45)))
  have J1 := Lib.hid ((K1.out.step b2).step (al w2 (.cells (bArr (qF l l.length)) 45)))
  have J2 := Lib.hid ((K2.out.step b2).step (al w2 (.cells (bArr (qF l l.length)) 45)))
  have HA := Lib.hid (BoxA.new w2 (qF l l.length) rfl)
  have HSZ := Lib.hid (show w.heap.size + 1 + 1 < w2.heap.size by have h1 := K2.out.lt; have h2 := b2.size; omega)
  clear b2 K0 K1 K2 HB1 HL1
  have x0 := (J0.out.cell 0).trans (rfl : _ = some (Value.int .i64 m))
  have z0 := J0.out.lt
  have z3 : w.heap.size < w2.heap.size := by have := HSZ.out; omega
  gi_wp2_with (first | (refine wpListIn_alloc45 rfl rfl _ rfl ?_) | (refine wpListIn_storeN rfl _ _ rfl _ rfl _ _ rfl w2 rfl rfl ?_))
  refine ⟨trivial, ?_⟩
  refine (callsIn_wide.2 (changes_any _ m 1440 _)).mono ?_
  rintro e w' ⟨rfl, rfl⟩
  clear x0 z0 z3
  have hal := al3 (w := w2.alloc (.cells (bArr (qF l l.length)) 45)) (o1 := .cells #[.pointer (some ⟨w2.heap.size, 0, none⟩)] 51) (o2 := .cells #[.int .i64 m] 3) (o3 := .cells #[.int .i64 1440] 3)
  have q0 := J0.out.step hal
  have q1 := J1.out.step hal
  have q2 := J2.out.step hal
  have qA := HA.out.step hal
  have hB0 := keep2 hal HB2.out
  have b1 := (BoxN.new (w2.alloc (.cells (bArr (qF l l.length)) 45)) #[.pointer (some ⟨w2.heap.size, 0, none⟩)] 51 (n := w2.heap.size + 1) (by simp)).step (al2 (o1 := .cells #[.int .i64 m] 3) (o2 := .cells #[.int .i64 1440] 3))
  have b2 := (BoxN.new ((w2.alloc (.cells (bArr (qF l l.length)) 45)).alloc (.cells #[.pointer (some ⟨w2.heap.size, 0, none⟩)] 51)) #[.int .i64 m] 3 (n := w2.heap.size + 1 + 1) (by simp)).step (al _ (.cells #[.int .i64 1440] 3))
  have b3 : BoxN _ _ #[.int .i64 ((1440 : Nat) : Int)] 3 := BoxN.new (((w2.alloc (.cells (bArr (qF l l.length)) 45)).alloc (.cells #[.pointer (some ⟨w2.heap.size, 0, none⟩)] 51)).alloc (.cells #[.int .i64 m] 3)) #[.int .i64 1440] 3 (n := w2.heap.size + 1 + 1 + 1) (by simp)
  have hsz : ((((w2.alloc (.cells (bArr (qF l l.length)) 45)).alloc (.cells #[.pointer (some ⟨w2.heap.size, 0, none⟩)] 51)).alloc (.cells #[.int .i64 m] 3)).alloc (.cells #[.int .i64 1440] 3)).heap.size = w2.heap.size + 1 + 1 + 1 + 1 := by simp
  gi_wp2
  obtain ⟨W0, hW0⟩ : ∃ W0, ((((w2.alloc (.cells (bArr (qF l l.length)) 45)).alloc (.cells #[.pointer (some ⟨w2.heap.size, 0, none⟩)] 51)).alloc (.cells #[.int .i64 m] 3)).alloc (.cells #[.int .i64 1440] 3)) = W0 := ⟨_, rfl⟩
  rw [hW0] at q0 q1 q2 qA hB0 b1 b2 b3 hsz ⊢
  clear hW0 hal
  have hz := HSZ.out
  have hm := HM.out
  refine wpIn_rangeFunc_ownH rfl (by omega) (gf := 29) (lb := #[.pointer (some ⟨w2.heap.size + 1, 0, none⟩), .pointer (some ⟨w2.heap.size + 1 + 1, 0, none⟩), .pointer (some ⟨w2.heap.size + 1 + 1 + 1, 0, none⟩)]) rfl trivial (enters_of Try.func29 (by kernel_rfl) rfl)
    (iter_stops (qF l l.length) m 1440 (by omega) (by omega) (by omega) W0 (w.heap.size + 1) (w2.heap.size + 1 + 1 + 1 + 1) w2.heap.size (w2.heap.size + 1) (w2.heap.size + 1 + 1) (w2.heap.size + 1 + 1 + 1) (by omega) (by omega) (by omega) qA b1 b2 b3 8 (by omega))
    Blk.trans (fun W l o o' => Blk.putObj (by omega) (by omega) W l o o') (Below.refl _ _) (fun _ => rfl)
    (NI w m W0.heap.size) (NX w m) (NI_own w m _ _ (by omega)) (NX_own w m _ (by omega))
    ⟨⟨⟨⟨q0, q1⟩, q2⟩, rfl⟩, hB0, Nat.le_refl _⟩
    (fun x a' W => ∃ Bx, w2.heap.size < Bx ∧ BoxN W Bx #[.int .i64 x.1, .bool x.2] 37 ∧ a' = { tmps := #[.slice va l.length vc, .int .i64 m, undef, .pointer (some ⟨w.heap.size, 0, none⟩), .pointer (some ⟨w.heap.size + 1, 0, none⟩), .pointer (some ⟨w.heap.size + 1 + 1, 0, none⟩), .pointer (some ⟨w2.heap.size, 0, none⟩), .pointer (some ⟨Bx, 0, none⟩), .slice va l.length vc, .bool true, .bool false, .bool false, .int .i64 m, .bool true, .bool false, .bool false, .slice va l.length vc, .agg (bArr (qF l l.length)), .int .i64 m, .func (.func 29) #[] #[.pointer (some ⟨w2.heap.size + 1, 0, none⟩), .pointer (some ⟨w2.heap.size + 1 + 1, 0, none⟩), .pointer (some ⟨w2.heap.size + 1 + 1 + 1, 0, none⟩)], cvl x, undef, undef, undef, undef], defers := [] })
    (fun x a' _ X Y row hs hg hr => by obtain ⟨Bx, h1, h2, h3⟩ := hs; exact ⟨Bx, h1, h2.kept hg (fun r e => (hr r e).2), h3⟩)
    ?assign ?body ?done ?stop
  case assign =>
    rintro lp pre x W K hI hK
    have hsW := hI.2.2
    have hI0 := hI.1.1.1.1.lt
    have hvx : cvl x = .agg #[.int .i64 x.1, .bool x.2] := rfl
    gi_wp2
    exact hK _ _ ((KeepsOthers.alloc _ _).from _) (Blk.of_below ((Below.refl _ W).alloc (by omega) _) (by omega)) (OwnFrom.alloc (NI_own w m _ W0.heap.size (by omega)) _ hI) ⟨W.heap.size, by omega, World.alloc_heap_new W _, rfl⟩
  case body =>
    rintro lp pre x a' W hl ⟨r, hr⟩ ⟨⟨⟨⟨k0, k1⟩, k2⟩, rfl⟩, hBW, hsW⟩ ⟨Bx, hBx, bX, rfl⟩ hlt
    have x0 := (bX.cell 0).trans (rfl : _ = some (Value.int .i64 x.1))
    have x1 := (k0.cell 0).trans (rfl : _ = some (Value.int .i64 m))
    have x2 := (k1.cell 0).trans (rfl : _ = some (Value.int .i64 0))
    have x3 := (k2.cell 0).trans (rfl : _ = some (Value.bool false))
    have y2 := k1.frozen 0
    have y3 := k2.frozen 0
    have z0 := bX.lt
    have z1 := k2.lt
    have HR := Lib.hid (show KeepsFrom W0.heap.size W ((W.setCell ⟨w.heap.size + 1, 0, none⟩ (.int .i64 (wrap64 (x.1 - m)))).setCell ⟨w.heap.size + 1 + 1, 0, none⟩ (.bool true)) ∧ NX w m .ret ([] ++ [x]) ((W.setCell ⟨w.heap.size + 1, 0, none⟩ (.int .i64 (wrap64 (x.1 - m)))).setCell ⟨w.heap.size + 1 + 1, 0, none⟩ (.bool true)) from
      ⟨((KeepsOthers.setCell _ _ _).from _).trans ((KeepsOthers.setCell _ _ _).from _), x, ⟨rfl, rfl⟩, ⟨(k1.set rfl).other (by omega) _ _, (k2.other (by omega) _ _).set rfl⟩, (hBW.setCell (p := ⟨w.heap.size + 1, 0, none⟩) (by simp) _).setCell (p := ⟨w.heap.size + 1 + 1, 0, none⟩) (by simp; omega) _⟩)
    clear k0 k1 k2 bX hBW
    gi_wp2
    exact HR.out
  case done =>
    rintro D ys W hD hys ⟨⟨⟨⟨k0, k1⟩, k2⟩, rfl⟩, hBW, hsW⟩ hK
    have x2 := (k1.cell 0).trans (rfl : _ = some (Value.int .i64 0))
    have x3 := (k2.cell 0).trans (rfl : _ = some (Value.bool false))
    have y2 := k1.frozen 0
    have y3 := k2.frozen 0
    have z1 := k2.lt
    have z2 := k1.lt
    have HR := Lib.hid (show nxV l m = (0, false) from nxV_none HV.out HI.out (by rw [← gF_is]; exact hys.symm))
    have l1 := (k1.set (j := 0) (v := .int .i64 0) (vs' := #[.int .i64 0]) rfl).other (B' := w.heap.size + 1 + 1) (by omega) 0 (.bool false)
    have l2 := (k2.other (B' := w.heap.size + 1) (by omega) 0 (.int .i64 0)).set (j := 0) (v := .bool false) (vs' := #[.bool false]) rfl
    have hK2 : ((W.setCell ⟨w.heap.size + 1, 0, none⟩ (.int .i64 0)).setCell ⟨w.heap.size + 1 + 1, 0, none⟩ (.bool false)).heap[D]? = some (.deferred (some [])) := by
      rw [heap_setCell_other _ _ _ _ (by simp; omega), heap_setCell_other _ _ _ _ (by simp; omega)]; exact hK
    have HB3 := Lib.hid ((hBW.setCell (p := ⟨w.heap.size + 1, 0, none⟩) (by simp) (.int .i64 0)).setCell (p := ⟨w.heap.size + 1 + 1, 0, none⟩) (by simp; omega) (.bool false))
    obtain ⟨W3, hW3⟩ : ∃ z, ((W.setCell ⟨w.heap.size + 1, 0, none⟩ (.int .i64 0)).setCell ⟨w.heap.size + 1 + 1, 0, none⟩ (.bool false)) = z := ⟨_, rfl⟩
    rw [hW3] at l1 l2 hK2 HB3
    have e1 := ((boxN_putObj l1 (.deferred none) hK2 rfl).cell 0).trans (rfl : _ = some (Value.int .i64 0))
    have e2 := ((boxN_putObj l2 (.deferred none) hK2 rfl).cell 0).trans (rfl : _ = some (Value.bool false))
    have HW := Lib.hid hW3
    have HBZ := Lib.hid (HB3.out.trans (belowK_b (w := w) (Nat.le_refl _) W3 D _ (.deferred none) (by omega) hK2 rfl rfl))
    clear hW3 l1 l2 k0 k1 k2 hBW HB3 hys
    gi_wp2
    rw [HW.out]
    refine ⟨by simp, .inl ⟨_, _, rfl, run_takeDeferred hK2, ?_⟩⟩
    refine ⟨.tuple #[.int .i64 0, .bool false], by simp [results, Try.results10, go_sem, e1, e2], ?_⟩
    exact ⟨by rw [HR.out], HBZ.out⟩
  case stop =>
    rintro D c pre W hD hpre ⟨x, ⟨rfl, rfl⟩, ⟨k1, k2⟩, hBW⟩ hK
    have hpre' : [x] <+: chs (Qm l) m 1440 := by rw [← gF_is]; exact hpre
    obtain ⟨tl, htl⟩ := hpre'
    have HR := Lib.hid (show nxV l m = (x.1 - m, true) from nxV_some HV.out HI.out (by rw [← htl]; rfl))
    have hx := chs_mem (p := x) (n := 1440) (g := Qm l) (m := m) (by rw [← htl]; simp)
    have hw : wrap64 (x.1 - m) = x.1 - m := IntWalk.wrap64_in _ (by omega)
    rw [hw] at k1
    have e1 := ((boxN_putObj k1 (.deferred none) hK rfl).cell 0).trans (rfl : _ = some (Value.int .i64 (x.1 - m)))
    have e2 := ((boxN_putObj k2 (.deferred none) hK rfl).cell 0).trans (rfl : _ = some (Value.bool true))
    have HBZ := Lib.hid (hBW.trans (belowK_b (w := w) (Nat.le_refl _) W D _ (.deferred none) (by omega) hK rfl rfl))
    clear k1 k2 hBW hx htl hpre hw
    gi_wp2
    refine ⟨by simp, .inl ⟨_, _, rfl, run_takeDeferred hK, ?_⟩⟩
    refine ⟨.tuple #[.int .i64 (x.1 - m), .bool true], by simp [results, Try.results10, go_sem, e1, e2], ?_⟩
    exact ⟨by rw [HR.out], HBZ.out⟩
theorem next_any (v : Value) (l : List (Int × Int)) (m : Int) (w : World) (h : WinsAt w v l) : Calls Try.prog 10 #[v, .int .i64 m] w (NxP l m w) := by
  cases hb : (okL l && inR m)
  · exact next_no v l m w h hb
  · rw [Bool.and_eq_true] at hb
    exact callsIn_wide.1 (next_in v l m w h hb.1 hb.2)
end Go.Proofs.Ytmejpmnipejpiaa
