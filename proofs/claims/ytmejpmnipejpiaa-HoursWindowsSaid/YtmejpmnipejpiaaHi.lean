/- Quiet hours: 'Changes'. -/
import Derived.Test.YtmejpmnipejpiaaHh
import Derived.Shelf.Abstract
namespace Go.Proofs.Ytmejpmnipejpiaa
open Go.RowKit Go.Shelf
attribute [local go_sem] Oper.semAt_some

/-- What 'Changes' gives. -/
def cgB (l : List (Int × Int)) (f t : Int) : Bool := okL l && inR f && inR t && decide (f < t) && decide (t ≤ f + 14400)
def cgV (l : List (Int × Int)) (f t : Int) : List (Int × Bool) := if cgB l f t then chs (Qm l) f (t - f).toNat else []
def CgP (l : List (Int × Int)) (f t : Int) (w : World) (e : Ending) (w' : World) : Prop := ∃ u, e = .returned u ∧ ChsAt w' u (cgV l f t) ∧ Below w.heap.size w w'
/-- The cells of a list of changes. -/
def ccs (l : List (Int × Bool)) : List Value := l.flatMap fun x => [.int .i64 x.1, .bool x.2]
theorem ccs_snoc (l : List (Int × Bool)) (x : Int × Bool) : ccs (l ++ [x]) = ccs l ++ [.int .i64 x.1, .bool x.2] := by simp [ccs]
theorem ccs_get (l : List (Int × Bool)) : ∀ (i : Nat) (x : Int × Bool), l[i]? = some x → ∀ j, j < 2 → (ccs l)[i * 2 + j]? = [Value.int .i64 x.1, .bool x.2][j]? := by
  induction l with
  | nil => intro i x h; simp at h
  | cons y l ih =>
    intro i x h j hj
    have hs : ccs (y :: l) = [.int .i64 y.1, .bool y.2] ++ ccs l := by simp [ccs]
    rw [hs]
    cases i with
    | zero =>
      simp at h; subst h
      rw [List.getElem?_append_left (by simp; omega)]
      simp
    | succ i =>
      rw [List.getElem?_append_right (by simp; omega)]
      have := ih i x (by simpa using h) j hj
      rw [← this]
      congr 1
      simp; omega
theorem chs_of_row {w : World} {base : Nat} {v : Value} {l : List (Int × Bool)} (h : w.ownsRow base 37 2 v l.length (ccs l)) : ChsAt w v l := by
  have hc := fun g (hg : v.ownBlock = some g) => h.cells hg
  rcases h.2 with ⟨rfl, h0⟩ | ⟨g, cap, cur, rfl, h1, h2, h3, h4, -⟩
  · have : l = [] := List.length_eq_zero_iff.1 h0
    subst this
    exact chs_nil _
  · refine ⟨some ⟨g, 0, none⟩, cap, rfl, h3, by omega, fun _ => ⟨g, 0, rfl, fun i x hi => ?_⟩⟩
    have hj := fun j (hj : j < 2) u (hu : [Value.int .i64 x.1, .bool x.2][j]? = some u) => hc g rfl (i * 2 + j) u ((ccs_get l i x hi j hj).trans hu)
    simp only [Go.WideShapes.add_plain] at hj
    exact ⟨hj 0 (by omega) _ rfl, hj 1 (by omega) _ rfl⟩
theorem info37 : (Try.prog.info? 37).map (fun i => (i.zero, i.size, i.bytes)) = some (some (.agg #[.int .i64 0, .bool false]), 2, 16) := by kernel_rfl
theorem cell_two_at (W : World) (a b : Value) (T : TypeId) : ∀ j u, [a, b][j]? = some u → (W.alloc (.cells #[a, b] T)).cell? ((⟨W.heap.size, 0, none⟩ : Addr).add j) = some u := by
  intro j u hu
  have hadd : (⟨W.heap.size, 0, none⟩ : Addr).add j = ⟨W.heap.size, j, none⟩ := by unfold Addr.add; split <;> simp_all
  rw [hadd, World.cell?_alloc_new]
  simpa using hu
theorem row_slice {W : World} {base : Nat} {e : TypeId} {size : Nat} {v : Value} {k : Nat} {xs : List Value} (h : W.ownsRow base e size v k xs) : ∃ a cap, v = .slice a k cap := by
  rcases h.2 with ⟨rfl, rfl⟩ | ⟨g, cap, _, rfl, _⟩
  · exact ⟨none, 0, rfl⟩
  · exact ⟨_, cap, rfl⟩
theorem row_base {w : World} {base b2 e s : Nat} {v : Value} {n : Nat} {xs : List Value} (h : w.ownsRow base e s v n xs) (hb : b2 ≤ base) : w.ownsRow b2 e s v n xs := by
  refine ⟨h.1, ?_⟩
  rcases h.2 with h0 | ⟨g, cap, cur, h1, h2, h3⟩
  · exact .inl h0
  · exact .inr ⟨g, cap, cur, h1, Nat.le_trans hb h2, h3⟩
theorem append_step {W w1 : World} {n0 b : Nat} {v v' : Value} {k m : Nat} {xs ys : List Value} {tmp : Obj} (hb : b < n0) (hn : n0 ≤ W.heap.size) (hv : Boxed W b 29 v) (hrow : W.ownsRow n0 37 2 v k xs)
    (hown' : w1.ownsRow n0 37 2 v' m ys) (hgrow : (W.alloc tmp).grownBy w1 v.ownBlock) :
    Boxed w1 b 29 v ∧ Boxed (w1.setCell ⟨b, 0, none⟩ v') b 29 v' ∧ (w1.setCell ⟨b, 0, none⟩ v').ownsRow n0 37 2 v' m ys ∧ KeepsOthers W (w1.setCell ⟨b, 0, none⟩ v') ∧ Blk b n0 W (w1.setCell ⟨b, 0, none⟩ v') := by
  obtain ⟨hv1, hv2, -, hk2, hb2⟩ := hv.appended (by decide) (row_base hrow (Nat.le_of_lt hb)) (by omega) (Nat.le_refl b) (row_base hown' (Nat.le_of_lt hb)) hgrow
  refine ⟨hv1, hv2, hown'.kept (grownBy_setCell' w1 b v') (.inr (hv1.not_row (by decide) hown').symm), hk2, hb2, fun j h1 h2 => ?_⟩
  have hne : v.ownBlock ≠ some j := fun e => by
    rcases hrow.2 with ⟨rfl, -⟩ | ⟨g, cap, cur, rfl, hg, -⟩
    · simp [Value.ownBlock] at e
    · obtain rfl : g = j := by simpa [Value.ownBlock] using e
      omega
  rw [heap_setCell_other _ _ _ _ (by simp; omega), hgrow.block j (by simp; omega) (fun e => hne e.symm)]
  exact Below.heap_alloc _ _ _ (by omega)
/-- The variables of 'Changes' while changes come. -/
def CI (w : World) (b n0 : Nat) (pre : List (Int × Bool)) (W : World) : Prop :=
  (∃ v, Boxed W b 29 v ∧ W.ownsRow n0 37 2 v pre.length (ccs pre) ∧ True) ∧ Below w.heap.size w W ∧ n0 ≤ W.heap.size
theorem CI_own (w : World) (b n0 : Nat) (B : Nat) (hB : w.heap.size ≤ B) : OwnFrom B (CI w b n0) :=
  OwnFrom.and (Own.from (holdsRow_own n0 b 29 37 2 (fun pre : List (Int × Bool) => pre.length) (fun pre => ccs pre) (fun _ _ => True)) _) (OwnFrom.and (ownFrom_below (Nat.le_refl _) hB) (fun _ _ _ _ h hg _ => Nat.le_trans h hg.size))
set_option maxRecDepth 100000 in
set_option maxHeartbeats 4000000 in
theorem cg_a (v : Value) (l : List (Int × Int)) (f t : Int) (w : World) (h : WinsAt w v l) (hv : okL l = false) : Calls Try.prog 17 #[v, .int .i64 f, .int .i64 t] w (CgP l f t w) := by
  have HR := Lib.hid (show cgV l f t = [] by unfold cgV; rw [show cgB l f t = false by unfold cgB; rw [hv]; simp]; rfl)
  have HV := Lib.hid hv
  clear hv
  go_enter Try.func17, Try.ntmps17
  go_wp2_with fail
  refine (valid_q v l _ h _ HV.out).mono ?_
  rintro e w1 ⟨rfl, b1⟩
  have HB := Lib.hid b1
  clear b1
  go_wp2
  go_ret
  exact ⟨_, rfl, by rw [HR.out]; exact chs_nil _, HB.out⟩
set_option maxRecDepth 100000 in
set_option maxHeartbeats 4000000 in
theorem cg_b (v : Value) (l : List (Int × Int)) (f t : Int) (w : World) (h : WinsAt w v l) (hv : okL l = true) (hf : inR f = false) : Calls Try.prog 17 #[v, .int .i64 f, .int .i64 t] w (CgP l f t w) := by
  have HR := Lib.hid (show cgV l f t = [] by unfold cgV; rw [show cgB l f t = false by unfold cgB; rw [hf]; simp]; rfl)
  have HV := Lib.hid hv
  have HF := Lib.hid hf
  clear hv hf
  go_enter Try.func17, Try.ntmps17
  go_wp2_with fail
  refine (valid_q v l _ h _ HV.out).mono ?_
  rintro e w1 ⟨rfl, b1⟩
  have HB := Lib.hid b1
  clear b1
  go_wp2_with fail
  refine (inR_q f _ HF.out _).mono ?_
  rintro e w' ⟨rfl, rfl⟩
  go_wp2
  go_ret
  exact ⟨_, rfl, by rw [HR.out]; exact chs_nil _, HB.out⟩
set_option maxRecDepth 100000 in
set_option maxHeartbeats 4000000 in
theorem cg_c (v : Value) (l : List (Int × Int)) (f t : Int) (w : World) (h : WinsAt w v l) (hv : okL l = true) (hf : inR f = true) (ht : inR t = false) : Calls Try.prog 17 #[v, .int .i64 f, .int .i64 t] w (CgP l f t w) := by
  have HR := Lib.hid (show cgV l f t = [] by unfold cgV; rw [show cgB l f t = false by unfold cgB; rw [ht]; simp]; rfl)
  have HV := Lib.hid hv
  have HF := Lib.hid hf
  have HT := Lib.hid ht
  clear hv hf ht
  go_enter Try.func17, Try.ntmps17
  go_wp2_with fail
  refine (valid_q v l _ h _ HV.out).mono ?_
  rintro e w1 ⟨rfl, b1⟩
  have HB := Lib.hid b1
  clear b1
  go_wp2_with fail
  refine (inR_q f _ HF.out _).mono ?_
  rintro e w' ⟨rfl, rfl⟩
  go_wp2_with fail
  refine (inR_q t _ HT.out _).mono ?_
  rintro e w' ⟨rfl, rfl⟩
  go_wp2
  go_ret
  exact ⟨_, rfl, by rw [HR.out]; exact chs_nil _, HB.out⟩
set_option maxRecDepth 100000 in
set_option maxHeartbeats 4000000 in
theorem cg_d (v : Value) (l : List (Int × Int)) (f t : Int) (w : World) (h : WinsAt w v l) (hv : okL l = true) (hf : inR f = true) (ht : inR t = true) (hd : t ≤ f) : Calls Try.prog 17 #[v, .int .i64 f, .int .i64 t] w (CgP l f t w) := by
  have HR := Lib.hid (show cgV l f t = [] by unfold cgV; rw [show cgB l f t = false by unfold cgB; rw [decide_eq_false (show ¬ f < t by omega)]; simp]; rfl)
  have HV := Lib.hid hv
  have HF := Lib.hid hf
  have HT := Lib.hid ht
  clear hv hf ht
  go_enter Try.func17, Try.ntmps17
  go_wp2_with fail
  refine (valid_q v l _ h _ HV.out).mono ?_
  rintro e w1 ⟨rfl, b1⟩
  have HB := Lib.hid b1
  clear b1
  go_wp2_with fail
  refine (inR_q f _ HF.out _).mono ?_
  rintro e w' ⟨rfl, rfl⟩
  go_wp2_with fail
  refine (inR_q t _ HT.out _).mono ?_
  rintro e w' ⟨rfl, rfl⟩
  go_wp2
  go_ret
  exact ⟨_, rfl, by rw [HR.out]; exact chs_nil _, HB.out⟩
set_option maxRecDepth 100000 in
set_option maxHeartbeats 4000000 in
theorem cg_e (v : Value) (l : List (Int × Int)) (f t : Int) (w : World) (h : WinsAt w v l) (hv : okL l = true) (hf : inR f = true) (ht : inR t = true) (hd : f < t) (he : f + 14400 < t) : Calls Try.prog 17 #[v, .int .i64 f, .int .i64 t] w (CgP l f t w) := by
  have HR := Lib.hid (show cgV l f t = [] by unfold cgV; rw [show cgB l f t = false by unfold cgB; rw [decide_eq_false (show ¬ t ≤ f + 14400 by omega)]; simp]; rfl)
  have HV := Lib.hid hv
  have HF := Lib.hid hf
  have HT := Lib.hid ht
  have hM := inR_iff.1 hf
  have hd2 : ¬ t ≤ f := by omega
  clear hv hf ht
  go_enter Try.func17, Try.ntmps17
  go_wp2_with fail
  refine (valid_q v l _ h _ HV.out).mono ?_
  rintro e w1 ⟨rfl, b1⟩
  have HB := Lib.hid b1
  clear b1
  go_wp2_with fail
  refine (inR_q f _ HF.out _).mono ?_
  rintro e w' ⟨rfl, rfl⟩
  go_wp2_with fail
  refine (inR_q t _ HT.out _).mono ?_
  rintro e w' ⟨rfl, rfl⟩
  go_wp2
  go_ret
  exact ⟨_, rfl, by rw [HR.out]; exact chs_nil _, HB.out⟩
set_option maxRecDepth 100000 in
set_option maxHeartbeats 4000000 in
theorem cg_in (v : Value) (l : List (Int × Int)) (f t : Int) (w : World) (h : WinsAt w v l) (hv : okL l = true) (hf : inR f = true) (ht : inR t = true) (hd : f < t) (he : t ≤ f + 14400) : CallsIn Fence.wide 9 Try.prog 17 #[v, .int .i64 f, .int .i64 t] w (CgP l f t w) := by
  have HL := Lib.hid h
  obtain ⟨i0, hi, hz0, hz1, hz2⟩ := info_parts info37
  obtain ⟨va, vc, rfl⟩ : ∃ a c, v = .slice a l.length c := (by obtain ⟨a, c, e, -⟩ := h; exact ⟨a, c, e⟩)
  clear h
  obtain ⟨n, hn⟩ : ∃ n : Nat, t - f = n := ⟨(t - f).toNat, by omega⟩
  have HR := Lib.hid (show cgV l f t = chs (Qm l) f n by unfold cgV; rw [show cgB l f t = true by unfold cgB; rw [hv, hf, ht]; simp; omega, show (t - f).toNat = n by omega]; rfl)
  have hn2 : n ≤ 14400 := by omega
  have hM := inR_iff.1 hf
  have hM2 := inR_iff.1 ht
  have hd2 : ¬ t ≤ f := by omega
  have he2 : ¬ f + 14400 < t := by omega
  have HV := Lib.hid hv
  have HF := Lib.hid hf
  have HT := Lib.hid ht
  have HO := Lib.hid (okL_parts hv)
  have hd3 : decide (t ≤ f) = false := by simp; omega
  have he3 : decide (f + 14400 < t) = false := by simp; omega
  have hn3 : wrap64 ((n : Int)) = n := IntWalk.wrap64_in _ (by omega)
  clear hv hf ht
  refine callsIn_of_wp_marks Try.func17 rfl trivial ?_ rfl
  simp only [Try.ntmps17, List.size_toArray, List.length_cons, List.length_nil, Nat.reduceAdd, Nat.reduceSub, Array.replicate_succ, Array.replicate_zero, List.push_toArray, List.append_toArray, List.nil_append, List.cons_append]
  gi_wp2_with fail
  refine ⟨trivial, ?_⟩
  refine (callsIn_wide.2 (valid_q _ l _ HL.out _ HV.out)).mono ?_
  rintro e w1 ⟨rfl, b1⟩
  have HB1 := Lib.hid b1
  have HL1 := Lib.hid ((HL.out.step b1).step (al w1 (.cells #[.slice none 0 0] 29)))
  clear b1 HL
  gi_wp2_with fail
  refine ⟨trivial, ?_⟩
  refine (callsIn_wide.2 (inR_q f _ HF.out _)).mono ?_
  rintro e w' ⟨rfl, rfl⟩
  gi_wp2_with fail
  refine ⟨trivial, ?_⟩
  refine (callsIn_wide.2 (inR_q t _ HT.out _)).mono ?_
  rintro e w' ⟨rfl, rfl⟩
  gi_wp2_with fail
  refine ⟨trivial, ?_⟩
  refine (callsIn_wide.2 (quietMin_any _ l _ HL1.out HO.out.2 HO.out.1)).mono ?_
  rintro e w2 ⟨rfl, b2⟩
  have HB2a := Lib.hid (keep2 b2 (HB1.out.alloc HB1.out.size (.cells #[.slice none 0 0] 29)))
  have HB2 := Lib.hid (HB2a.out.alloc HB2a.out.size (.cells (bArr (qF l l.length)) 45))
  have J0 := Lib.hid (((Boxed.new w1 29 (.slice none 0 0))))
  have J1 := Lib.hid (show BoxN _ _ _ _ from ((BoxN.new w1 #[.slice none 0 0] 29 rfl).step b2).step (al w2 (.cells (bArr (qF l l.length)) 45)))
  have HA := Lib.hid (BoxA.new w2 (qF l l.length) rfl)
  have HSZ := Lib.hid (show w.heap.size ≤ w1.heap.size ∧ w1.heap.size < w2.heap.size by have h1 := HB1.out.size; have h2 := b2.size; simp at h2; omega)
  clear b2 J0 HB1 HL1 HB2a
  gi_wp2_with (first | (refine wpListIn_alloc45 rfl rfl _ rfl ?_) | (refine wpListIn_storeN rfl _ _ rfl _ rfl _ _ rfl w2 rfl rfl ?_))
  refine ⟨trivial, ?_⟩
  refine (callsIn_wide.2 (changes_any _ f n _)).mono ?_
  rintro e w' ⟨rfl, rfl⟩
  have hal := al3 (w := w2.alloc (.cells (bArr (qF l l.length)) 45)) (o1 := .cells #[.pointer (some ⟨w2.heap.size, 0, none⟩)] 51) (o2 := .cells #[.int .i64 f] 3) (o3 := .cells #[.int .i64 n] 3)
  have q1 := J1.out.step hal
  have qA := HA.out.step hal
  have hB0 := keep2 hal HB2.out
  have b1 := (BoxN.new (w2.alloc (.cells (bArr (qF l l.length)) 45)) #[.pointer (some ⟨w2.heap.size, 0, none⟩)] 51 (n := w2.heap.size + 1) (by simp)).step (al2 (o1 := .cells #[.int .i64 f] 3) (o2 := .cells #[.int .i64 n] 3))
  have b2 := (BoxN.new ((w2.alloc (.cells (bArr (qF l l.length)) 45)).alloc (.cells #[.pointer (some ⟨w2.heap.size, 0, none⟩)] 51)) #[.int .i64 f] 3 (n := w2.heap.size + 1 + 1) (by simp)).step (al _ (.cells #[.int .i64 n] 3))
  have b3 := BoxN.new (((w2.alloc (.cells (bArr (qF l l.length)) 45)).alloc (.cells #[.pointer (some ⟨w2.heap.size, 0, none⟩)] 51)).alloc (.cells #[.int .i64 f] 3)) #[.int .i64 n] 3 (n := w2.heap.size + 1 + 1 + 1) (by simp)
  have hsz : ((((w2.alloc (.cells (bArr (qF l l.length)) 45)).alloc (.cells #[.pointer (some ⟨w2.heap.size, 0, none⟩)] 51)).alloc (.cells #[.int .i64 f] 3)).alloc (.cells #[.int .i64 n] 3)).heap.size = w2.heap.size + 1 + 1 + 1 + 1 := by simp
  gi_wp2
  obtain ⟨W0, hW0⟩ : ∃ W0, ((((w2.alloc (.cells (bArr (qF l l.length)) 45)).alloc (.cells #[.pointer (some ⟨w2.heap.size, 0, none⟩)] 51)).alloc (.cells #[.int .i64 f] 3)).alloc (.cells #[.int .i64 n] 3)) = W0 := ⟨_, rfl⟩
  rw [hW0] at q1 qA hB0 b1 b2 b3 hsz ⊢
  clear hW0 hal
  have hz := HSZ.out
  refine wpIn_rangeFunc_ownH rfl (by omega) (gf := 29) (lb := #[.pointer (some ⟨w2.heap.size + 1, 0, none⟩), .pointer (some ⟨w2.heap.size + 1 + 1, 0, none⟩), .pointer (some ⟨w2.heap.size + 1 + 1 + 1, 0, none⟩)]) rfl trivial (enters_of Try.func29 (by kernel_rfl) rfl)
    (iter_stops (qF l l.length) f n (by omega) (by omega) (by omega) W0 w1.heap.size W0.heap.size w2.heap.size (w2.heap.size + 1) (w2.heap.size + 1 + 1) (w2.heap.size + 1 + 1 + 1) (by omega) (by omega) (by omega) qA b1 b2 b3 8 (by omega))
    Blk.trans (fun W l o o' => Blk.putObj (by omega) (by omega) W l o o') (Below.refl _ _) (fun _ => rfl)
    (CI w w1.heap.size W0.heap.size) (fun _ _ _ => False) (CI_own w _ _ _ (by omega)) (fun _ _ _ _ _ hs _ _ => hs)
    ⟨⟨_, q1, World.ownsRow_nil _ _ _ _, trivial⟩, hB0, Nat.le_refl _⟩
    (fun x a' W => ∃ Bx, w2.heap.size < Bx ∧ BoxN W Bx #[.int .i64 x.1, .bool x.2] 37 ∧ a' = { tmps := #[.slice va l.length vc, .int .i64 f, .int .i64 t, undef, undef, undef, .slice none 0 0, .pointer (some ⟨w1.heap.size, 0, none⟩), .pointer (some ⟨w2.heap.size, 0, none⟩), .pointer (some ⟨Bx, 0, none⟩), .slice va l.length vc, .bool true, .bool false, .bool false, .int .i64 f, .bool true, .bool false, .bool false, .bool false, .int .i64 t, .bool true, .bool false, .bool false, .bool false, .int .i64 t, .int .i64 f, .bool false, .bool false, .bool false, .int .i64 t, .int .i64 f, .int .i64 (f + 14400), .bool false, .bool false, .slice va l.length vc, .agg (bArr (qF l l.length)), .int .i64 f, .int .i64 t, .int .i64 f, .int .i64 n, .func (.func 29) #[] #[.pointer (some ⟨w2.heap.size + 1, 0, none⟩), .pointer (some ⟨w2.heap.size + 1 + 1, 0, none⟩), .pointer (some ⟨w2.heap.size + 1 + 1 + 1, 0, none⟩)], cvl x, undef, undef, undef, undef, undef], defers := [] })
    (fun x a' _ X Y row hs hg hr => by obtain ⟨Bx, h1, h2, h3⟩ := hs; exact ⟨Bx, h1, h2.kept hg (fun r e => (hr r e).2), h3⟩)
    ?assign ?body ?done ?stop
  case assign =>
    rintro lp pre x W K hI hK
    have hsW := hI.2.2
    have hvx : cvl x = .agg #[.int .i64 x.1, .bool x.2] := rfl
    gi_wp2
    exact hK _ _ ((KeepsOthers.alloc _ _).from _) (Blk.of_below ((Below.refl _ W).alloc (by omega) _) (by omega)) (OwnFrom.alloc (CI_own w _ _ W0.heap.size (by omega)) _ hI) ⟨W.heap.size, by omega, World.alloc_heap_new W _, rfl⟩
  case body =>
    rintro lp pre x a' W hl ⟨r, hr⟩ ⟨⟨u, hv, hrow, -⟩, hBW, hsW⟩ ⟨Bx, hBx, bX, rfl⟩ hlt
    obtain ⟨ua, uc, rfl⟩ := row_slice hrow
    have hcell := hv.cell
    have x0 := (bX.cell 0).trans (rfl : _ = some (Value.int .i64 x.1))
    have x1 := (bX.cell 1).trans (rfl : _ = some (Value.bool x.2))
    have z0 := bX.lt
    have z1 := hv.lt
    have HVv := Lib.hid hv
    have HRr := Lib.hid hrow
    clear hv hrow
    gi_wp2_with (gi_at_builtin; go_must (refine wpListIn_append_own _ rfl _ _ 29 rfl W0.heap.size 37 i0 _ 2 16 Try.underlying29 hi hz0 hz1 hz2 rfl (by decide) _ _ _ rfl (HRr.out.alloc _) ⟨W.heap.size, 0, none⟩ 1 1 [.int .i64 x.1, .bool x.2] rfl rfl (cell_two_at _ _ _ _) (by simp [Value.oneCell']) (by unfold maxLen; omega) (by omega) (by simp; omega) ?_); intro v' w3 hown' hgrow hnil; obtain ⟨g', cap', rfl⟩ := ownsRow_succ hown'; obtain ⟨hv1, hv2, hr2, hk2, hb2⟩ := append_step (by omega) hsW HVv.out HRr.out hown' hgrow; have hc1 := hv1.cell; have hf1 := hv1.frozen; have V2 := Lib.hid hv2; have R2 := Lib.hid hr2; have B2 := Lib.hid hb2; have KK := Lib.hid hk2; clear hv2 hr2 hb2 hk2 hown' hgrow hnil hv1)
    refine ⟨KK.out.from _, B2.out, ⟨_, V2.out, ?_, trivial⟩, hBW.trans (B2.out.1.mono (by omega)), Nat.le_trans hsW B2.out.1.size⟩
    rw [ccs_snoc, List.length_append]
    exact R2.out
  case done =>
    rintro D ys W hD hys ⟨⟨u, hv, hrow, -⟩, hBW, hsW⟩ hK
    obtain ⟨ua, uc, rfl⟩ := row_slice hrow
    have hcell := hv.cell
    have z1 := hv.lt
    have HRr := Lib.hid hrow
    have HYs := Lib.hid (show ys = chs (Qm l) f n by rw [← gF_is]; exact hys)
    clear hrow hys hv
    gi_wp2
    refine ⟨by simp, .inl ⟨_, _, rfl, run_takeDeferred hK, ?_⟩⟩
    exact ⟨_, results_tmp rfl _ _ _, _, rfl, by rw [HR.out, ← HYs.out]; exact chs_of_row (ownsRow_putObj HRr.out _ hK rfl), hBW.trans (belowK_b (w := w) (Nat.le_refl _) W D _ _ (by omega) hK rfl rfl)⟩
  case stop =>
    rintro D c pre W _ _ h _
    exact h.elim
theorem cg_any (v : Value) (l : List (Int × Int)) (f t : Int) (w : World) (h : WinsAt w v l) : Calls Try.prog 17 #[v, .int .i64 f, .int .i64 t] w (CgP l f t w) := by
  cases hv : okL l
  · exact cg_a v l f t w h hv
  · cases hf : inR f
    · exact cg_b v l f t w h hv hf
    · cases ht : inR t
      · exact cg_c v l f t w h hv hf ht
      · by_cases hd : t ≤ f
        · exact cg_d v l f t w h hv hf ht hd
        · by_cases he : t ≤ f + 14400
          · exact callsIn_wide.1 (cg_in v l f t w h hv hf ht (by omega) he)
          · exact cg_e v l f t w h hv hf ht (by omega) (by omega)
end Go.Proofs.Ytmejpmnipejpiaa
