import Derived.Test.YteodafhgfcbdpaaUi
namespace Go.Proofs.Yteodafhgfcbdpaa
open Go.RowKit
attribute [local go_sem] Oper.semAt_some

/-- A block of cells lies as it lay. -/
def SameB (B : Nat) (W W' : World) : Prop := ∀ o : Obj, W.heap[B]? = some o → o.isCells = true → W'.heap[B]? = some o
theorem BoxN.same {W W' : World} {B : Nat} {t : TypeId} {vs : Array Value} (h : BoxN W B vs t) (hs : SameB B W W') : BoxN W' B vs t := hs _ h rfl
/-- The contract of an iterator over a list that writes two boxes. -/
def SeqW {α : Type} (n : Nat) (g : Nat) (lb : Array Value) (enc : α → Value) (L : List α) (B1 B2 : Nat) (w : World) : Prop :=
  ∀ (lp : Nat) (J Jx : List α → World → Prop) (W : World), Below w.heap.size w W → AbidesFrom W.heap.size J → AbidesFrom W.heap.size Jx → (∀ s A k v, (k = B1 ∨ k = B2) → J s A → J s (A.setCell ⟨k, 0, none⟩ v)) →
    (∀ (pre : List α) (x : α) (W1 : World), J pre W1 → (∃ r, L = pre ++ x :: r) → YieldAt Fence.wide (n - 1) Try.prog lp #[enc x] W1 fun e W' =>
      (e = .returned (.bool true) ∧ J (pre ++ [x]) W' ∧ SameB B1 W1 W' ∧ SameB B2 W1 W') ∨ (e = .returned (.bool false) ∧ Jx (pre ++ [x]) W')) → J [] W →
    CallsIn Fence.wide n Try.prog g (#[.func (.yield lp) #[] #[]] ++ lb) W fun e W' => (∃ v, e = .returned v) ∧ (J L W' ∨ ∃ pre, (∃ r, L = pre ++ r) ∧ Jx pre W')
/-- How a round's body may be left. -/
def postW {α : Type} (I : List α → World → Prop) (Ix : Code → List α → World → Prop) (xs : List α) (B1 B2 : Nat) (W : World) : Exit → Act → World → Prop
  | .normal, _, W' => KeepsOthers W W' ∧ I xs W' ∧ SameB B1 W W' ∧ SameB B2 W W'
  | .ret, _, W' => KeepsOthers W W' ∧ Ix .ret xs W'
  | _, _, _ => False
theorem range_bx {α : Type} {n : Nat} {g : Operand} {ps : Array Tmp} {assign body : Code} {Q : Exit → Act → World → Prop} {a : Act} {w : World} (h1 : 1 ≤ n) {gf : Nat} {lb : Array Value} (hg : a.eval g = .func (.func gf) #[] lb)
    (eg : ∀ args w, (callFunc gf args).run Try.prog w = .ok (.enter gf args) w) {enc : α → Value} {L : List α} {B1 B2 : Nat} (hseq : SeqW (n - 1) gf lb enc L B1 B2 w) (hps : ps.size = 1) (hB1 : B1 < w.heap.size) (hB2 : B2 < w.heap.size)
    (I : List α → World → Prop) (Ix : Code → List α → World → Prop)
    (hI : OwnFrom w.heap.size I) (hIx : ∀ c, OwnFrom w.heap.size (Ix c)) (hIS : ∀ s A k v, (k = B1 ∨ k = B2) → I s A → I s (A.setCell ⟨k, 0, none⟩ v)) (h0 : I [] w) (a₁ : α → Act)
    (hassign : ∀ (l : Nat) (x : α) (W : World) (K : Act → World → Prop), K (a₁ x) W →
      assign.wpIn (Fence.wide.inRound l) (n - 1 - 1) Try.prog (Exit.then K (fun _ _ _ => False)) { tmps := (ps.zip #[enc x]).foldl (fun t (p, v) => t.setIfInBounds p v) a.tmps, defers := [] } W)
    (hbody : ∀ (l : Nat) (pre : List α) (x : α) (W : World), I pre W → (∃ r, L = pre ++ x :: r) → body.wpIn (Fence.wide.inRound l) (n - 1 - 1) Try.prog (postW I Ix (pre ++ [x]) B1 B2 W) (a₁ x) W)
    (hdone : ∀ (D : Nat) (W : World), w.heap.size ≤ D → I L W → W.heap[D]? = some (.deferred (some [])) → Q .normal { a with defers := { target := .collected D, args := #[] } :: a.defers } W)
    (hstop : ∀ (D : Nat) (c : Code) (pre : List α) (W : World), w.heap.size ≤ D → (∃ r, L = pre ++ r) → Ix c pre W → W.heap[D]? = some (.deferred (some [])) → c.wpIn Fence.wide n Try.prog Q { a with defers := { target := .collected D, args := #[] } :: a.defers } W) :
    (Code.rangeFunc g ps assign body).wpIn Fence.wide n Try.prog Q a w := by
  refine wpIn_rangeFunc fun fn hfn => ?_
  -- the record of the loop, in its three states
  let R (st : LoopState) (j : Option Code) : Obj := .loop { state := st, pending := j, fn, tmps := a.tmps, params := ps, assign, body, defers := w.heap.size }
  let lp := w.heap.size + 1
  let V := (w.alloc (.deferred (some []))).alloc (R .ready none)
  have sV : V.heap.size = w.heap.size + 1 + 1 := by simp [V]
  have vl : V.heap[lp]? = some (R .ready none) := by
    have := World.alloc_heap_new (w.alloc (.deferred (some []))) (R .ready none)
    rwa [World.size_alloc] at this
  have vd : V.heap[w.heap.size]? = some (.deferred (some [])) := (Below.heap_alloc _ _ _ (by simp)).trans (World.alloc_heap_new w _)
  have vb : Below w.heap.size w V := ((Below.refl _ w).alloc (Nat.le_refl _) _).alloc (by simp) _
  have vi : I [] V := hI.alloc _ (hI.alloc _ h0)
  refine ⟨lp, [{ target := .collected w.heap.size, args := #[] }], V, { target := .fn (.func gf) lb, args := #[.func (.yield lp) #[] #[]] }, V, gf, #[.func (.yield lp) #[] #[]] ++ lb, V, ?_, ?_, fun _ _ => trivial, ?_, fun _ => h1, ?_⟩
  · exact run_enterLoop_outer _ _ _ _ _
  · simp only [resolve, hg]; simp [go_sem]
  · simp [invoke, go_sem, eg]
  · -- what the caller knows beside its own invariant: the record, and the block of the deferred calls
    have step : ∀ {A B : World} {row : Option Nat}, A.grownBy B row → (∀ r, row = some r → V.heap.size ≤ r ∧ ∃ o : Obj, A.heap[r]? = some o ∧ o.isWalk = true) →
        (∀ r, row = some r → w.heap.size ≤ r ∧ ∃ o : Obj, A.heap[r]? = some o ∧ o.isCells = false) ∧ ∀ (k : Nat) (o : Obj), A.heap[k]? = some o → o.isCells = false → o.isWalk = false → B.heap[k]? = some o := by
      intro A B row hgr hr
      have hr2 : ∀ r, row = some r → w.heap.size ≤ r ∧ ∃ o : Obj, A.heap[r]? = some o ∧ o.isCells = false := fun r e => by
        obtain ⟨h2, o, h3, h4⟩ := hr r e
        exact ⟨by rw [sV] at h2; omega, o, h3, Obj.not_cells_of_walk h4⟩
      refine ⟨hr2, fun k o hk hc hw => ?_⟩
      refine (hgr.block k (Array.getElem?_eq_some_iff.1 hk).1 fun e => ?_).trans hk
      obtain ⟨-, o2, h3, h4⟩ := hr k e.symm
      rw [hk] at h3
      cases h3
      rw [hw] at h4
      cases h4
    refine (hseq lp (fun pre W => I pre W ∧ W.heap[lp]? = some (R .ready none) ∧ W.heap[w.heap.size]? = some (.deferred (some [])))
      (fun pre W => ∃ c, Ix c pre W ∧ W.heap[lp]? = some (R .done (some c)) ∧ W.heap[w.heap.size]? = some (.deferred (some []))) V vb ?_ ?_ ?_ ?_ ⟨vi, vl, vd⟩).mono ?_
    · rintro s A B row ⟨hb, hl, hd⟩ hgr hr
      obtain ⟨h2, h3⟩ := step hgr hr
      exact ⟨hI s A B row hb hgr h2, h3 _ _ hl rfl rfl, h3 _ _ hd rfl rfl⟩
    · rintro s A B row ⟨c, hc, hl, hd⟩ hgr hr
      obtain ⟨h2, h3⟩ := step hgr hr
      exact ⟨c, hIx c s A B row hc hgr h2, h3 _ _ hl rfl rfl, h3 _ _ hd rfl rfl⟩
    · rintro s A k v hk ⟨hb, hl, hd⟩
      have hkl : k < w.heap.size := by rcases hk with rfl | rfl <;> assumption
      exact ⟨hIS s A k v hk hb, (Below.heap_setCell A ⟨k, 0, none⟩ v lp (by show lp ≠ k; omega)).trans hl, (Below.heap_setCell A ⟨k, 0, none⟩ v w.heap.size (by show w.heap.size ≠ k; omega)).trans hd⟩
    · -- one round
      rintro pre x W ⟨hbW, hl, hd⟩ hx
      have hlt : lp < W.heap.size := (Array.getElem?_eq_some_iff.1 hl).1
      refine ⟨fn, _, assign, body, run_yield (P := Try.prog) (args := #[enc x]) hl hps.symm, roundIn_of_wpIn hfn (hassign _ x W _ ⟨_, run_beginRound hl rfl, ?_⟩)⟩
      let Wb := W.putObj lp (R .busy none)
      have bl : Wb.heap[lp]? = some (R .busy none) := World.putObj_heap_same hlt
      have bd : Wb.heap[w.heap.size]? = some (.deferred (some [])) := (World.putObj_heap_other (by simp [lp])).trans hd
      have bi : I pre Wb := hI.putObj _ hbW (by simp [lp]) hl rfl
      have bs : ∀ B, B < w.heap.size → SameB B W Wb := fun B hB o ho _ => (World.putObj_heap_other (by simp only [lp]; omega)).trans ho
      refine wpIn_mono (hbody lp pre x Wb bi hx) ?_
      -- the end of the round
      have fin : ∀ (j : Option Code) (W3 : World), KeepsOthers Wb W3 → W3.heap[lp]? = some (R .busy none) ∧ (Instr.endRound lp j).run Try.prog W3 = .ok (.bool j.isNone) (W3.putObj lp (R (if j.isNone then .ready else .done) j)) ∧
          (W3.putObj lp (R (if j.isNone then .ready else .done) j)).heap[lp]? = some (R (if j.isNone then .ready else .done) j) ∧ (W3.putObj lp (R (if j.isNone then .ready else .done) j)).heap[w.heap.size]? = some (.deferred (some [])) := fun j W3 hk3 => by
        have h3 := hk3.same _ _ bl rfl
        exact ⟨h3, run_endRound (P := Try.prog) j h3, World.putObj_heap_same (Array.getElem?_eq_some_iff.1 h3).1, (World.putObj_heap_other (by simp [lp])).trans (hk3.same _ _ bd rfl)⟩
      rintro e a3 W3 hp
      cases e with
      | normal =>
        obtain ⟨hk3, hi3, hs1, hs2⟩ := hp
        obtain ⟨h3, hr, hl4, hd4⟩ := fin none W3 hk3
        have pb : ∀ B, B < w.heap.size → SameB B Wb W3 → SameB B W (W3.putObj lp (R .ready none)) := fun B hB hs o ho hc =>
          (World.putObj_heap_other (by simp only [lp]; omega)).trans (hs o (bs B hB o ho hc) hc)
        exact ⟨_, _, hr, .inl ⟨rfl, ⟨hI.putObj _ hi3 (by simp [lp]) h3 rfl, hl4, hd4⟩, pb B1 hB1 hs1, pb B2 hB2 hs2⟩⟩
      | ret =>
        obtain ⟨hk3, hi3⟩ := hp
        obtain ⟨h3, hr, hl4, hd4⟩ := fin (some .ret) W3 hk3
        exact ⟨_, _, hr, .inr ⟨rfl, .ret, (hIx _).putObj _ hi3 (by simp [lp]) h3 rfl, hl4, hd4⟩⟩
      | exit id => exact hp.elim
      | goto t => exact hp.elim
      | panic ch => exact hp.elim
      | outgrown => exact hp.elim
    · -- behind the iterator
      rintro e W2 ⟨⟨v, rfl⟩, (⟨hb, hl, hd⟩ | ⟨pre, hp, c, hc, hl, hd⟩)⟩
      · exact ⟨none, _, run_endLoop (P := Try.prog) hl (by simp), hdone _ _ (Nat.le_refl _) (hI.putObj _ hb (by simp [lp]) hl rfl) ((World.putObj_heap_other (by simp [lp])).trans hd)⟩
      · exact ⟨some c, _, run_endLoop (P := Try.prog) hl (by simp), hstop _ c pre _ (Nat.le_refl _) hp ((hIx c).putObj _ hc (by simp [lp]) hl rfl) ((World.putObj_heap_other (by simp [lp])).trans hd)⟩
/-- The form of a path: where the index has no other one beside it. -/
def fmF : Nat → Nat → Nat → List Bool
  | 0, _, _ => []
  | f + 1, i, c => if 1 < c then (decide (i = c - 1) && decide (c % 2 = 1)) :: fmF f (i / 2) ((c + 1) / 2) else []
def fmL (i c : Nat) : List Bool := fmF c i c
theorem fmF_step {f i c : Nat} (h1 : 1 < c) (hf : c ≤ f) : fmF f i c = (decide (i = c - 1) && decide (c % 2 = 1)) :: fmF (f - 1) (i / 2) ((c + 1) / 2) := by
  obtain ⟨g, rfl⟩ : ∃ g, f = g + 1 := ⟨f - 1, by omega⟩
  show (if 1 < c then _ else _) = _
  rw [if_pos h1]; rfl
theorem fmF_end {f i c : Nat} (h1 : ¬ 1 < c) : fmF f i c = [] := by
  cases f with
  | zero => rfl
  | succ g => show (if 1 < c then _ else _) = _; rw [if_neg h1]
theorem form_any (i c : Int) (w : World) : Calls Try.prog 70 #[.int .i64 i, .int .i64 c] w fun e w' => e = .returned (.func (.func 78) #[] #[.pointer (some ⟨w.heap.size + 1, 0, none⟩), .pointer (some ⟨w.heap.size, 0, none⟩)]) ∧ w' = (w.alloc (.cells #[.int .i64 i] 3)).alloc (.cells #[.int .i64 c] 3) := by
  go_enter Try.func70, Try.ntmps70
  go_wp2
  go_ret
  exact ⟨rfl, rfl⟩
theorem fm_a {ck ik : Nat} (h1 : 1 < ck) (h2 : ck ≤ 64) (h3 : ik ≤ 64) : wrap64 ((ck : Int) - 1) = (ck : Int) - 1 ∧ (ck : Int).tmod 2 = ((ck % 2 : Nat) : Int) ∧ (ik : Int).tdiv 2 = ((ik / 2 : Nat) : Int) ∧ wrap64 ((ck : Int) + 1) = (ck : Int) + 1 ∧ ((ck : Int) + 1).tdiv 2 = (((ck + 1) / 2 : Nat) : Int) ∧ (ck + 1) / 2 < ck ∧ (ck + 1) / 2 ≤ 64 ∧ ik / 2 ≤ 64 :=
  ⟨IntWalk.wrap64_in _ (by omega), rfl, rfl, IntWalk.wrap64_in _ (by omega), rfl, by omega, by omega, by omega⟩
open Go.RowKit
attribute [local go_sem] Oper.semAt_some

theorem BoxN.set {w : World} {b : Nat} {t : TypeId} {vs : Array Value} (h : BoxN w b vs t) (j : Nat) (v : Value) {vs' : Array Value} (hvs : vs.setIfInBounds j v = vs') : BoxN (w.setCell ⟨b, j, none⟩ v) b vs' t := by
  subst hvs
  have h' : w.heap[b]? = some (.cells vs t (0, 0)) := h
  have hl := h.lt
  have h2 : w.heap[b] = .cells vs t (0, 0) := by simpa [Array.getElem?_eq_getElem hl] using h'
  show (w.heap.modify b _)[b]? = _
  rw [Array.getElem?_eq_getElem (by simpa using hl), Array.getElem_modify_self, h2]
  rfl
theorem BoxN.frz {w : World} {b : Nat} {t : TypeId} {vs : Array Value} (h : BoxN w b vs t) (j : Nat) : w.frozen? ⟨b, j, none⟩ = false := by
  have h' : w.heap[b]? = some (.cells vs t (0, 0)) := h
  simp [World.frozen?, h']
def cntOf (w : World) (B : Nat) : Nat := match w.cell? ⟨B, 0, none⟩ with
  | some v => (intOf v).toNat
  | none => 0
theorem cnt_box {w : World} {B : Nat} {z : Int} {t : TypeId} (h : BoxN w B #[.int .i64 z] t) : cntOf w B = z.toNat := by
  unfold cntOf
  rw [h.cell 0]
  rfl
set_option maxRecDepth 100000 in
set_option maxHeartbeats 8000000 in
theorem iterF (i c : Nat) (hc : c ≤ 64) (hi : i ≤ 64) (n : Nat) (hn : 1 ≤ n) (lp B1 B2 : Nat) (hne : B1 ≠ B2) (J Jx : List Bool → World → Prop) (W : World) (hA : AbidesFrom W.heap.size J)
    (hS : ∀ s A k v, (k = B1 ∨ k = B2) → J s A → J s (A.setCell ⟨k, 0, none⟩ v))
    (hY : ∀ (pre : List Bool) (x : Bool) (W1 : World), J pre W1 → (∃ r, fmL i c = pre ++ x :: r) → YieldAt Fence.wide (n - 1) Try.prog lp #[.bool x] W1 fun e W' =>
      (e = .returned (.bool true) ∧ J (pre ++ [x]) W' ∧ SameB B1 W1 W' ∧ SameB B2 W1 W') ∨ (e = .returned (.bool false) ∧ Jx (pre ++ [x]) W'))
    (hx1 : BoxN W B1 #[.int .i64 c] 3) (hx2 : BoxN W B2 #[.int .i64 i] 3) (h0 : J [] W) :
    CallsIn Fence.wide n Try.prog 78 #[.func (.yield lp) #[] #[], .pointer (some ⟨B1, 0, none⟩), .pointer (some ⟨B2, 0, none⟩)] W fun e W' => (∃ v, e = .returned v) ∧ (J (fmL i c) W' ∨ ∃ pre, (∃ r, fmL i c = pre ++ r) ∧ Jx pre W') := by
  have HY := Lib.hid hY
  have HS := Lib.hid hS
  have HNE := Lib.hid hne
  have HJ0 := Lib.hid (show ∀ s A B, J s A → Below A.heap.size A B → J s B from fun s A B h hb => hA s A B none h (grown_of_below hb) (by simp))
  have HJ := Lib.hid h0
  have H1 := Lib.hid hx1
  have H2 := Lib.hid hx2
  have HF := Lib.hid (show fmL i c = [] ++ fmF c i c from rfl)
  obtain ⟨LF, hLF⟩ : ∃ z9, fmL i c = z9 := ⟨_, rfl⟩
  rw [hLF] at HY HF ⊢
  have HC := Lib.hid hc
  have HI := Lib.hid hi
  clear hY hA hS hx1 hx2 h0 hLF hc hi hne
  refine callsIn_of_wp Try.func78 rfl trivial ?_ rfl
  simp only [Try.ntmps78, List.size_toArray, List.length_cons, List.length_nil, Nat.reduceAdd, Nat.reduceSub, Array.replicate_succ, Array.replicate_zero, List.push_toArray, List.append_toArray, List.nil_append, List.cons_append]
  gi_wp2_with fail
  gi_loopw [4] (fun _ wr => ∃ (pre : List Bool) (ik ck f : Nat), ck ≤ f ∧ ck ≤ 64 ∧ ik ≤ 64 ∧ Hid (LF = pre ++ fmF f ik ck) ∧ Hid (BoxN wr B1 #[.int .i64 (ck : Int)] 3) ∧ Hid (BoxN wr B2 #[.int .i64 (ik : Int)] 3) ∧ Hid (J pre wr)) (fun _ wr => cntOf wr B1)
  case atStart => exact ⟨[], i, c, c, by omega, HC.out, HI.out, HF, H1, H2, HJ⟩
  case round =>
    clear HF H1 H2 HJ
    obtain ⟨pre, ik, ck, f, hcf, hc64, hi64, HF, H1, H2, HJ⟩ := hrel
    have c1 := (H1.out.cell 0).trans (rfl : _ = some (Value.int .i64 (ck : Int)))
    have c2 := (H2.out.cell 0).trans (rfl : _ = some (Value.int .i64 (ik : Int)))
    have l1 := H1.out.lt
    have l2 := H2.out.lt
    have HC0 := Lib.hid (show cntOf wr B1 = ck by rw [cnt_box H1.out]; rfl)
    by_cases hlt : 1 < ck
    · have HST := Lib.hid (fmF_step (i := ik) hlt hcf)
      have t1 : (1 : Int) < (ck : Int) := by omega
      by_cases e1 : ik = ck - 1
      · by_cases e2 : ck % 2 = 1
        · have HXB := Lib.hid (show LF = pre ++ true :: fmF (f - 1) (ik / 2) ((ck + 1) / 2) by rw [HF.out, HST.out]; congr 2; rw [decide_eq_true e1, decide_eq_true e2]; rfl)
          have u1 : ((ik : Int) == (ck : Int) - 1) = true := by rw [beq_iff_eq]; omega
          have u2 : ((ck : Int) % 2 == 1) = true := by rw [beq_iff_eq]; omega
          clear e2
          clear e1
          have HZ1 := Lib.hid (show ((ik / 2 : Nat) : Int) = (ik : Int) / 2 by omega)
          have HZ2 := Lib.hid (show (((ck + 1) / 2 : Nat) : Int) = ((ck : Int) + 1) / 2 by omega)
          have HZ3 := Lib.hid (show (ck + 1) / 2 < ck ∧ (ck + 1) / 2 ≤ 64 ∧ ik / 2 ≤ 64 ∧ (ck + 1) / 2 ≤ f - 1 by omega)
          gi_wp2_with fail
          obtain ⟨fn, tmps, assign, body, hy, hRR⟩ := HY.out pre true _ HJ.out ⟨_, HXB.out⟩
          rw [hy]
          gi_wp2
          refine hRR.mono ?_
          rintro e W4 (⟨rfl, hJ4, hs1, hs2⟩ | ⟨rfl, hJx4⟩)
          · have HJ4 := Lib.hid hJ4
            have K1 := Lib.hid (H1.out.same hs1)
            have K2 := Lib.hid (H2.out.same hs2)
            clear hJ4 hs1 hs2 hRR hy H1 H2 HJ c1 c2 l1 l2 u1 u2 t1
            have c1 := (K1.out.cell 0).trans (rfl : _ = some (Value.int .i64 (ck : Int)))
            have c2 := (K2.out.cell 0).trans (rfl : _ = some (Value.int .i64 (ik : Int)))
            have l1 := K1.out.lt
            have l2 := K2.out.lt
            have f1 := K1.out.frz 0
            have f2 := K2.out.frz 0
            have n1 : ¬ B1 = B2 := HNE.out
            have n2 : ¬ B2 = B1 := fun e => HNE.out e.symm
            have M2 := Lib.hid ((K2.out.set 0 (.int .i64 ((ik : Int) / 2)) (vs' := #[.int .i64 ((ik : Int) / 2)]) rfl).away (B := B1) n2 0 (.int .i64 (((ck : Int) + 1) / 2)))
            have M1 := Lib.hid ((K1.out.away (B := B2) n1 0 (.int .i64 ((ik : Int) / 2))).set 0 (.int .i64 (((ck : Int) + 1) / 2)) (vs' := #[.int .i64 (((ck : Int) + 1) / 2)]) rfl)
            have MJ := Lib.hid (HS.out _ _ B1 (.int .i64 (((ck : Int) + 1) / 2)) (.inl rfl) (HS.out _ _ B2 (.int .i64 ((ik : Int) / 2)) (.inr rfl) HJ4.out))
            gi_wp2
            go_roundw
            case rel => exact ⟨pre ++ [true], ik / 2, (ck + 1) / 2, f - 1, HZ3.out.2.2.2, HZ3.out.2.1, HZ3.out.2.2.1, Lib.hid (by rw [HXB.out]; simp), Lib.hid (by rw [HZ2.out]; exact M1.out), Lib.hid (by rw [HZ1.out]; exact M2.out), MJ⟩
            case measure => rw [cnt_box M1.out, HC0.out, ← HZ2.out, Int.toNat_natCast]; exact HZ3.out.1
          · gi_wp2
            refine bodyPost_ret (results_none rfl _ _ _) rfl ?_
            exact ⟨⟨_, rfl⟩, .inr ⟨_, ⟨fmF (f - 1) (ik / 2) ((ck + 1) / 2), by rw [HXB.out]; simp⟩, hJx4⟩⟩
        · have HXB := Lib.hid (show LF = pre ++ false :: fmF (f - 1) (ik / 2) ((ck + 1) / 2) by rw [HF.out, HST.out]; congr 2; rw [decide_eq_false e2, Bool.and_false])
          have u1 : ((ik : Int) == (ck : Int) - 1) = true := by rw [beq_iff_eq]; omega
          have u2 : ((ck : Int) % 2 == 1) = false := by rw [beq_eq_false_iff_ne]; omega
          clear e2
          clear e1
          have HZ1 := Lib.hid (show ((ik / 2 : Nat) : Int) = (ik : Int) / 2 by omega)
          have HZ2 := Lib.hid (show (((ck + 1) / 2 : Nat) : Int) = ((ck : Int) + 1) / 2 by omega)
          have HZ3 := Lib.hid (show (ck + 1) / 2 < ck ∧ (ck + 1) / 2 ≤ 64 ∧ ik / 2 ≤ 64 ∧ (ck + 1) / 2 ≤ f - 1 by omega)
          gi_wp2_with fail
          obtain ⟨fn, tmps, assign, body, hy, hRR⟩ := HY.out pre false _ HJ.out ⟨_, HXB.out⟩
          rw [hy]
          gi_wp2
          refine hRR.mono ?_
          rintro e W4 (⟨rfl, hJ4, hs1, hs2⟩ | ⟨rfl, hJx4⟩)
          · have HJ4 := Lib.hid hJ4
            have K1 := Lib.hid (H1.out.same hs1)
            have K2 := Lib.hid (H2.out.same hs2)
            clear hJ4 hs1 hs2 hRR hy H1 H2 HJ c1 c2 l1 l2 u1 u2 t1
            have c1 := (K1.out.cell 0).trans (rfl : _ = some (Value.int .i64 (ck : Int)))
            have c2 := (K2.out.cell 0).trans (rfl : _ = some (Value.int .i64 (ik : Int)))
            have l1 := K1.out.lt
            have l2 := K2.out.lt
            have f1 := K1.out.frz 0
            have f2 := K2.out.frz 0
            have n1 : ¬ B1 = B2 := HNE.out
            have n2 : ¬ B2 = B1 := fun e => HNE.out e.symm
            have M2 := Lib.hid ((K2.out.set 0 (.int .i64 ((ik : Int) / 2)) (vs' := #[.int .i64 ((ik : Int) / 2)]) rfl).away (B := B1) n2 0 (.int .i64 (((ck : Int) + 1) / 2)))
            have M1 := Lib.hid ((K1.out.away (B := B2) n1 0 (.int .i64 ((ik : Int) / 2))).set 0 (.int .i64 (((ck : Int) + 1) / 2)) (vs' := #[.int .i64 (((ck : Int) + 1) / 2)]) rfl)
            have MJ := Lib.hid (HS.out _ _ B1 (.int .i64 (((ck : Int) + 1) / 2)) (.inl rfl) (HS.out _ _ B2 (.int .i64 ((ik : Int) / 2)) (.inr rfl) HJ4.out))
            gi_wp2
            go_roundw
            case rel => exact ⟨pre ++ [false], ik / 2, (ck + 1) / 2, f - 1, HZ3.out.2.2.2, HZ3.out.2.1, HZ3.out.2.2.1, Lib.hid (by rw [HXB.out]; simp), Lib.hid (by rw [HZ2.out]; exact M1.out), Lib.hid (by rw [HZ1.out]; exact M2.out), MJ⟩
            case measure => rw [cnt_box M1.out, HC0.out, ← HZ2.out, Int.toNat_natCast]; exact HZ3.out.1
          · gi_wp2
            refine bodyPost_ret (results_none rfl _ _ _) rfl ?_
            exact ⟨⟨_, rfl⟩, .inr ⟨_, ⟨fmF (f - 1) (ik / 2) ((ck + 1) / 2), by rw [HXB.out]; simp⟩, hJx4⟩⟩
      · have HXB := Lib.hid (show LF = pre ++ false :: fmF (f - 1) (ik / 2) ((ck + 1) / 2) by rw [HF.out, HST.out]; congr 2; rw [decide_eq_false e1, Bool.false_and])
        have u1 : ((ik : Int) == (ck : Int) - 1) = false := by rw [beq_eq_false_iff_ne]; omega
        clear e1
        have HZ1 := Lib.hid (show ((ik / 2 : Nat) : Int) = (ik : Int) / 2 by omega)
        have HZ2 := Lib.hid (show (((ck + 1) / 2 : Nat) : Int) = ((ck : Int) + 1) / 2 by omega)
        have HZ3 := Lib.hid (show (ck + 1) / 2 < ck ∧ (ck + 1) / 2 ≤ 64 ∧ ik / 2 ≤ 64 ∧ (ck + 1) / 2 ≤ f - 1 by omega)
        gi_wp2_with fail
        obtain ⟨fn, tmps, assign, body, hy, hRR⟩ := HY.out pre false _ HJ.out ⟨_, HXB.out⟩
        rw [hy]
        gi_wp2
        refine hRR.mono ?_
        rintro e W4 (⟨rfl, hJ4, hs1, hs2⟩ | ⟨rfl, hJx4⟩)
        · have HJ4 := Lib.hid hJ4
          have K1 := Lib.hid (H1.out.same hs1)
          have K2 := Lib.hid (H2.out.same hs2)
          clear hJ4 hs1 hs2 hRR hy H1 H2 HJ c1 c2 l1 l2 u1 t1
          have c1 := (K1.out.cell 0).trans (rfl : _ = some (Value.int .i64 (ck : Int)))
          have c2 := (K2.out.cell 0).trans (rfl : _ = some (Value.int .i64 (ik : Int)))
          have l1 := K1.out.lt
          have l2 := K2.out.lt
          have f1 := K1.out.frz 0
          have f2 := K2.out.frz 0
          have n1 : ¬ B1 = B2 := HNE.out
          have n2 : ¬ B2 = B1 := fun e => HNE.out e.symm
          have M2 := Lib.hid ((K2.out.set 0 (.int .i64 ((ik : Int) / 2)) (vs' := #[.int .i64 ((ik : Int) / 2)]) rfl).away (B := B1) n2 0 (.int .i64 (((ck : Int) + 1) / 2)))
          have M1 := Lib.hid ((K1.out.away (B := B2) n1 0 (.int .i64 ((ik : Int) / 2))).set 0 (.int .i64 (((ck : Int) + 1) / 2)) (vs' := #[.int .i64 (((ck : Int) + 1) / 2)]) rfl)
          have MJ := Lib.hid (HS.out _ _ B1 (.int .i64 (((ck : Int) + 1) / 2)) (.inl rfl) (HS.out _ _ B2 (.int .i64 ((ik : Int) / 2)) (.inr rfl) HJ4.out))
          gi_wp2
          go_roundw
          case rel => exact ⟨pre ++ [false], ik / 2, (ck + 1) / 2, f - 1, HZ3.out.2.2.2, HZ3.out.2.1, HZ3.out.2.2.1, Lib.hid (by rw [HXB.out]; simp), Lib.hid (by rw [HZ2.out]; exact M1.out), Lib.hid (by rw [HZ1.out]; exact M2.out), MJ⟩
          case measure => rw [cnt_box M1.out, HC0.out, ← HZ2.out, Int.toNat_natCast]; exact HZ3.out.1
        · gi_wp2
          refine bodyPost_ret (results_none rfl _ _ _) rfl ?_
          exact ⟨⟨_, rfl⟩, .inr ⟨_, ⟨fmF (f - 1) (ik / 2) ((ck + 1) / 2), by rw [HXB.out]; simp⟩, hJx4⟩⟩
    · have HEN := Lib.hid (fmF_end (f := f) (i := ik) hlt)
      have t1 : ¬ (1 : Int) < (ck : Int) := by omega
      gi_wp2
      go_end0
      exact ⟨⟨_, rfl⟩, .inl (by rw [HF.out, HEN.out, List.append_nil]; exact HJ.out)⟩
open Go.RowKit
attribute [local go_sem] Oper.semAt_some

def chkB (a : Bool) (x : Int) : Bool := (a == decide (x = -1)) && (a || inB 0 2147483646 x)
def fmOK (fs : List Bool) (p : List Int) : Bool := decide (fs.length = p.length) && (List.range fs.length).all fun j => chkB (fs.getD j false) (p.getD j 0)
def prB (m : Mf) (i c : Nat) (d p : List Int) : Bool := fmOK (fmL i c) p && decide (clH d i p = m.r)
def OKP (pre : List Bool) (p : List Int) : Prop := pre.length ≤ p.length ∧ ∀ j, j < pre.length → chkB (pre.getD j false) (p.getD j 0) = true
theorem OKP.snoc {pre : List Bool} {p : List Int} {x : Bool} (h : OKP pre p) (hl : pre.length < p.length) (hx : chkB x (p.getD pre.length 0) = true) : OKP (pre ++ [x]) p := by
  refine ⟨by rw [List.length_append]; simp; omega, fun j hj => ?_⟩
  rw [List.length_append] at hj
  simp only [List.length_singleton] at hj
  by_cases e : j < pre.length
  · rw [List.getD_eq_getElem?_getD, List.getElem?_append_left e, ← List.getD_eq_getElem?_getD]; exact h.2 j e
  · obtain rfl : j = pre.length := by omega
    rw [show (pre ++ [x]).getD pre.length false = x by simp]; exact hx
theorem OKP.done {fs : List Bool} {p : List Int} (h : OKP fs p) : fmOK fs p = decide (fs.length = p.length) := by
  unfold fmOK
  rw [show ((List.range fs.length).all fun j => chkB (fs.getD j false) (p.getD j 0)) = true from List.all_eq_true.2 fun j hj => h.2 j (List.mem_range.1 hj), Bool.and_true]
theorem ok_bad {pre r : List Bool} {p : List Int} {x : Bool} (hb : p.length ≤ pre.length ∨ chkB x (p.getD pre.length 0) = false) : fmOK (pre ++ x :: r) p = false := by
  unfold fmOK
  by_cases hl : (pre ++ x :: r).length = p.length
  · rcases hb with hb | hb
    · rw [List.length_append, List.length_cons] at hl; omega
    · rw [decide_eq_true hl, Bool.true_and, List.all_eq_false]
      refine ⟨pre.length, List.mem_range.2 (by simp), ?_⟩
      rw [show (pre ++ x :: r).getD pre.length false = x by simp, hb]
      exact Bool.false_ne_true
  · rw [decide_eq_false hl, Bool.false_and]
/-- What is left of a path. -/
def RestV (pa : Option Addr) (p : List Int) (k : Nat) (v : Value) : Prop := ∃ a c, v = .slice a (p.length - k) c ∧ p.length - k ≤ c ∧ (k < p.length → ∃ b off, pa = some ⟨b, off, none⟩ ∧ a = some ⟨b, off + k, none⟩)
theorem box_own {B k : Nat} {vs : Array Value} {t : TypeId} (hk : k < B) {W W' : World} {row : Option Nat} (h : BoxN W k vs t) (hg : W.grownBy W' row) (hr : ∀ r, row = some r → B ≤ r) : BoxN W' k vs t :=
  (hg.block k h.lt (fun e => by have := hr k e.symm; omega)).trans h
/-- What the loop keeps. -/
structure PvI (w : World) (mc pc : Array Value) (pa : Option Addr) (p : List Int) (pre : List Bool) (W : World) : Prop where
  ok : OKP pre p
  rest : ∃ v, BoxN W (w.heap.size + 1 + 1 + 1) #[v] 22 ∧ RestV pa p pre.length v
  bm : BoxN W w.heap.size mc 24
  bp : BoxN W (w.heap.size + 1) pc 29
  bz : BoxN W (w.heap.size + 1 + 1) #[.bool false] 4
  bl : Below w.heap.size w W
theorem PvI.own (w : World) (mc pc : Array Value) (pa : Option Addr) (p : List Int) {B : Nat} (hB : w.heap.size + 4 ≤ B) : OwnFrom B (fun pre W => PvI w mc pc pa p pre W) := fun s W W' row h hg hr => by
  have hr2 : ∀ r, row = some r → w.heap.size + 4 ≤ r := fun r e => Nat.le_trans hB (hr r e).1
  obtain ⟨v, h1, h2⟩ := h.rest
  exact ⟨h.ok, ⟨v, box_own (by omega) h1 hg hr2, h2⟩, box_own (by omega) h.bm hg hr2, box_own (by omega) h.bp hg hr2, box_own (by omega) h.bz hg hr2, h.bl.grown hg h.bl.size (fun g e => by have := hr2 g e; omega)⟩
theorem PvI.store {w W : World} {mc pc : Array Value} {pa : Option Addr} {p : List Int} {pre : List Bool} (h : PvI w mc pc pa p pre W) {k : Nat} (hk : k = w.heap.size + 1 + 1 + 1 + 1 + 1 ∨ k = w.heap.size + 1 + 1 + 1 + 1) (v : Value) : PvI w mc pc pa p pre (W.setCell ⟨k, 0, none⟩ v) := by
  obtain ⟨u, h1, h2⟩ := h.rest
  exact ⟨h.ok, ⟨u, h1.away (by omega) 0 v, h2⟩, h.bm.away (by omega) 0 v, h.bp.away (by omega) 0 v, h.bz.away (by omega) 0 v, h.bl.setCell (p := ⟨k, 0, none⟩) (by show w.heap.size ≤ k; omega) v⟩
/-- What it is left with. -/
structure PvX (w : World) (L : List Bool) (p : List Int) (c : Code) (W : World) : Prop where
  co : c = .ret
  bad : fmOK L p = false
  bz : BoxN W (w.heap.size + 1 + 1) #[.bool false] 4
  bl : Below w.heap.size w W
theorem PvX.own (w : World) (L : List Bool) (p : List Int) (c : Code) {B : Nat} (hB : w.heap.size + 4 ≤ B) : OwnFrom B (fun (_ : List Bool) W => PvX w L p c W) := fun s W W' row h hg hr => by
  have hr2 : ∀ r, row = some r → w.heap.size + 4 ≤ r := fun r e => Nat.le_trans hB (hr r e).1
  exact ⟨h.co, h.bad, box_own (by omega) h.bz hg hr2, h.bl.grown hg h.bl.size (fun g e => by have := hr2 g e; omega)⟩
theorem PvI.next {w W : World} {mc pc : Array Value} {pa : Option Addr} {p : List Int} {pre : List Bool} (h : PvI w mc pc pa p pre W) (hl : pre.length < p.length) {x : Bool} (hx : chkB x (p.getD pre.length 0) = true) {v : Value} (hv : RestV pa p (pre.length + 1) v) : PvI w mc pc pa p (pre ++ [x]) (W.setCell ⟨w.heap.size + 1 + 1 + 1, 0, none⟩ v) := by
  obtain ⟨u, h1, h2⟩ := h.rest
  exact ⟨h.ok.snoc hl hx, ⟨v, h1.set 0 v rfl, by rw [List.length_append]; exact hv⟩, h.bm.away (by omega) 0 v, h.bp.away (by omega) 0 v, h.bz.away (by omega) 0 v, h.bl.setCell (p := ⟨w.heap.size + 1 + 1 + 1, 0, none⟩) (by show w.heap.size ≤ w.heap.size + 1 + 1 + 1; omega) v⟩
theorem PvI.al {w W : World} {mc pc : Array Value} {pa : Option Addr} {p : List Int} {pre : List Bool} (h : PvI w mc pc pa p pre W) (o : Obj) : PvI w mc pc pa p pre (W.alloc o) := by
  obtain ⟨u, h1, h2⟩ := h.rest
  exact ⟨h.ok, ⟨u, h1.step (_root_.Go.Proofs.Yteodafhgfcbdpaa.al W o), h2⟩, h.bm.step (_root_.Go.Proofs.Yteodafhgfcbdpaa.al W o), h.bp.step (_root_.Go.Proofs.Yteodafhgfcbdpaa.al W o), h.bz.step (_root_.Go.Proofs.Yteodafhgfcbdpaa.al W o), h.bl.alloc h.bl.size o⟩
theorem SameB.set (W : World) {B k : Nat} (h : B ≠ k) (v : Value) : SameB B W (W.setCell ⟨k, 0, none⟩ v) := fun _ ho _ => (Below.heap_setCell W ⟨k, 0, none⟩ v B h).trans ho
theorem SameB.al {W W' : World} {B : Nat} (h : SameB B W W') (o : Obj) : SameB B W (W'.alloc o) := fun q hq hc => by
  have := h q hq hc
  exact ((_root_.Go.Proofs.Yteodafhgfcbdpaa.al W' o).block B (Array.getElem?_eq_some_iff.1 this).1).trans this
theorem RestV.one {b off : Nat} {p : List Int} {k nn : Nat} (hn : p.length - k = nn) (h0 : 0 < nn) : nn ≤ 1 → RestV (some ⟨b, off, none⟩) p (k + 1) (.slice (some ⟨b, off + k, none⟩) 0 0) := fun h =>
  ⟨_, _, by rw [show p.length - (k + 1) = 0 by omega], by omega, fun hh => by omega⟩
theorem RestV.more {b off : Nat} {p : List Int} {k nn cc : Nat} (hn : p.length - k = nn) (h0 : 0 < nn) (h1 : nn ≤ cc) : RestV (some ⟨b, off, none⟩) p (k + 1) (.slice (some ⟨b, off + k + 1, none⟩) (nn - 1) (cc - 1)) :=
  ⟨some ⟨b, off + k + 1, none⟩, cc - 1, by rw [show p.length - (k + 1) = nn - 1 by omega], by omega, fun _ => ⟨b, off, rfl, by rw [Nat.add_assoc]⟩⟩
theorem stopsF (i c : Nat) (hc : c ≤ 64) (hi : i ≤ 64) (n : Nat) (hn : 1 ≤ n) (B1 B2 : Nat) (hne : B1 ≠ B2) (w : World) (hx1 : BoxN w B1 #[.int .i64 c] 3) (hx2 : BoxN w B2 #[.int .i64 i] 3) :
    SeqW n 78 #[.pointer (some ⟨B1, 0, none⟩), .pointer (some ⟨B2, 0, none⟩)] (fun x : Bool => .bool x) (fmL i c) B1 B2 w := fun lp J Jx W hW hA _ hS hY h0 =>
  iterF i c hc hi n hn lp B1 B2 hne J Jx W hA hS hY (hx1.step hW) (hx2.step hW) h0
set_option maxRecDepth 100000 in
set_option maxHeartbeats 8000000 in
theorem proved_in (m : Mf) (i c : Nat) (vd : Value) (d : List Int) (vp : Value) (p : List Int) (w : World) (hd : IntsAt w vd d) (hp : CapI w vp p) (hm : mfB m = true) (hc : m.c = c) (hi9 : i ≤ 64) (h9 : d.length ≤ 100000) :
    CallsIn Fence.wide 9 Try.prog 53 #[.agg #[.int .i64 m.v, .int .i64 m.c, .int .i64 m.s, .int .i64 m.r, .int .i64 m.t], .agg #[.int .i64 (i : Int), vd, vp]] w fun e w' => e = .returned (.bool (prB m i c d p)) ∧ Below w.heap.size w w' := by
  obtain ⟨hpi, pa, pc, rfl, hpc⟩ := hp
  have HD := Lib.hid hd
  have HP := Lib.hid hpi
  have HPC := Lib.hid hpc
  have HI9 := Lib.hid hi9
  have H9 := Lib.hid h9
  have HC9 := Lib.hid (show c ≤ 64 by have := (mfB_parts hm).2.1; omega)
  obtain ⟨da, dc, rfl, -, -⟩ := hd
  have HMC := Lib.hid hc
  clear hpi hpc hm hi9 h9 hc
  refine callsIn_of_wp_marks Try.func53 rfl trivial ?_ rfl
  simp only [Try.ntmps53, List.size_toArray, List.length_cons, List.length_nil, Nat.reduceAdd, Nat.reduceSub, Array.replicate_succ, Array.replicate_zero, List.push_toArray, List.append_toArray, List.nil_append, List.cons_append]
  gi_wp2_with fail
  refine ⟨trivial, ?_⟩
  refine (callsIn_wide.2 (form_any (i : Int) m.c _)).mono ?_
  rintro e w9 ⟨rfl, rfl⟩
  have x0 := BoxN.new w #[.int .i64 m.v, .int .i64 m.c, .int .i64 m.s, .int .i64 m.r, .int .i64 m.t] 24
  replace x0 := x0.step (al _ (.cells #[.int .i64 (i : Int), .slice da d.length dc, .slice pa p.length pc] 29))
  replace x0 := x0.step (al _ (.cells #[.bool false] 4))
  replace x0 := x0.step (al _ (.cells #[.slice pa p.length pc] 22))
  replace x0 := x0.step (al _ (.cells #[.int .i64 (i : Int)] 3))
  replace x0 := x0.step (al _ (.cells #[.int .i64 m.c] 3))
  have x1 := BoxN.new (w.alloc (.cells #[.int .i64 m.v, .int .i64 m.c, .int .i64 m.s, .int .i64 m.r, .int .i64 m.t] 24)) #[.int .i64 (i : Int), .slice da d.length dc, .slice pa p.length pc] 29
  replace x1 := x1.step (al _ (.cells #[.bool false] 4))
  replace x1 := x1.step (al _ (.cells #[.slice pa p.length pc] 22))
  replace x1 := x1.step (al _ (.cells #[.int .i64 (i : Int)] 3))
  replace x1 := x1.step (al _ (.cells #[.int .i64 m.c] 3))
  have x2 := BoxN.new ((w.alloc (.cells #[.int .i64 m.v, .int .i64 m.c, .int .i64 m.s, .int .i64 m.r, .int .i64 m.t] 24)).alloc (.cells #[.int .i64 (i : Int), .slice da d.length dc, .slice pa p.length pc] 29)) #[.bool false] 4
  replace x2 := x2.step (al _ (.cells #[.slice pa p.length pc] 22))
  replace x2 := x2.step (al _ (.cells #[.int .i64 (i : Int)] 3))
  replace x2 := x2.step (al _ (.cells #[.int .i64 m.c] 3))
  have x3 := BoxN.new (((w.alloc (.cells #[.int .i64 m.v, .int .i64 m.c, .int .i64 m.s, .int .i64 m.r, .int .i64 m.t] 24)).alloc (.cells #[.int .i64 (i : Int), .slice da d.length dc, .slice pa p.length pc] 29)).alloc (.cells #[.bool false] 4)) #[.slice pa p.length pc] 22
  replace x3 := x3.step (al _ (.cells #[.int .i64 (i : Int)] 3))
  replace x3 := x3.step (al _ (.cells #[.int .i64 m.c] 3))
  have x4 := BoxN.new ((((w.alloc (.cells #[.int .i64 m.v, .int .i64 m.c, .int .i64 m.s, .int .i64 m.r, .int .i64 m.t] 24)).alloc (.cells #[.int .i64 (i : Int), .slice da d.length dc, .slice pa p.length pc] 29)).alloc (.cells #[.bool false] 4)).alloc (.cells #[.slice pa p.length pc] 22)) #[.int .i64 (i : Int)] 3
  replace x4 := x4.step (al _ (.cells #[.int .i64 m.c] 3))
  have x5 := BoxN.new (((((w.alloc (.cells #[.int .i64 m.v, .int .i64 m.c, .int .i64 m.s, .int .i64 m.r, .int .i64 m.t] 24)).alloc (.cells #[.int .i64 (i : Int), .slice da d.length dc, .slice pa p.length pc] 29)).alloc (.cells #[.bool false] 4)).alloc (.cells #[.slice pa p.length pc] 22)).alloc (.cells #[.int .i64 (i : Int)] 3)) #[.int .i64 m.c] 3
  have hbl : Below w.heap.size w ((((((w.alloc (.cells #[.int .i64 m.v, .int .i64 m.c, .int .i64 m.s, .int .i64 m.r, .int .i64 m.t] 24)).alloc (.cells #[.int .i64 (i : Int), .slice da d.length dc, .slice pa p.length pc] 29)).alloc (.cells #[.bool false] 4)).alloc (.cells #[.slice pa p.length pc] 22)).alloc (.cells #[.int .i64 (i : Int)] 3)).alloc (.cells #[.int .i64 m.c] 3)) := ((((((al w (.cells #[.int .i64 m.v, .int .i64 m.c, .int .i64 m.s, .int .i64 m.r, .int .i64 m.t] 24)).alloc (by simp; try omega) (.cells #[.int .i64 (i : Int), .slice da d.length dc, .slice pa p.length pc] 29)).alloc (by simp; try omega) (.cells #[.bool false] 4)).alloc (by simp; try omega) (.cells #[.slice pa p.length pc] 22)).alloc (by simp; try omega) (.cells #[.int .i64 (i : Int)] 3)).alloc (by simp; try omega) (.cells #[.int .i64 m.c] 3))
  simp only [World.size_alloc] at x0 x1 x2 x3 x4 x5
  have hsz : (((((((w.alloc (.cells #[.int .i64 m.v, .int .i64 m.c, .int .i64 m.s, .int .i64 m.r, .int .i64 m.t] 24)).alloc (.cells #[.int .i64 (i : Int), .slice da d.length dc, .slice pa p.length pc] 29)).alloc (.cells #[.bool false] 4)).alloc (.cells #[.slice pa p.length pc] 22)).alloc (.cells #[.int .i64 (i : Int)] 3)).alloc (.cells #[.int .i64 m.c] 3))).heap.size = w.heap.size + 6 := by simp
  obtain ⟨W0, hW0⟩ : ∃ W0, ((((((w.alloc (.cells #[.int .i64 m.v, .int .i64 m.c, .int .i64 m.s, .int .i64 m.r, .int .i64 m.t] 24)).alloc (.cells #[.int .i64 (i : Int), .slice da d.length dc, .slice pa p.length pc] 29)).alloc (.cells #[.bool false] 4)).alloc (.cells #[.slice pa p.length pc] 22)).alloc (.cells #[.int .i64 (i : Int)] 3)).alloc (.cells #[.int .i64 m.c] 3)) = W0 := ⟨_, rfl⟩
  rw [hW0] at x0 x1 x2 x3 x4 x5 hbl hsz ⊢
  clear hW0
  rw [HMC.out] at x5
  gi_wp2_with fail
  refine range_bx (by omega) (gf := 78) (lb := #[.pointer (some ⟨w.heap.size + 1 + 1 + 1 + 1 + 1, 0, none⟩), .pointer (some ⟨w.heap.size + 1 + 1 + 1 + 1, 0, none⟩)]) rfl (enters_of Try.func78 (by kernel_rfl) rfl)
    (stopsF i c HC9.out HI9.out 8 (by omega) (w.heap.size + 1 + 1 + 1 + 1 + 1) (w.heap.size + 1 + 1 + 1 + 1) (by omega) W0 x5 x4) rfl (by omega) (by omega)
    (PvI w #[.int .i64 m.v, .int .i64 m.c, .int .i64 m.s, .int .i64 m.r, .int .i64 m.t] #[.int .i64 (i : Int), .slice da d.length dc, .slice pa p.length pc] pa p) (fun cd _ W => PvX w (fmL i c) p cd W) (PvI.own w _ _ pa p (by omega)) (fun cd => PvX.own w _ p cd (by omega)) (fun s A k v hk h => h.store hk v)
    ⟨⟨by simp, fun j hj => absurd hj (by simp)⟩, ⟨_, x3, pa, pc, by simp, by have := HPC.out; simp; exact this, fun h => ?rest0⟩, x0, x1, x2, hbl⟩
    (fun x => { tmps := List.toArray (.agg #[.int .i64 m.v, .int .i64 m.c, .int .i64 m.s, .int .i64 m.r, .int .i64 m.t] :: .agg #[.int .i64 (i : Int), .slice da d.length dc, .slice pa p.length pc] :: .pointer (some ⟨w.heap.size, 0, none⟩) :: .pointer (some ⟨w.heap.size + 1, 0, none⟩) :: .pointer (some ⟨w.heap.size + 1 + 1, 0, none⟩) :: .pointer (some ⟨w.heap.size + 1 + 1 + 1, 0, none⟩) :: .bool x :: undef :: undef :: .pointer (some ⟨w.heap.size + 1, 2, none⟩) :: .slice pa p.length pc :: .pointer (some ⟨w.heap.size + 1, 0, none⟩) :: .int .i64 (i : Int) :: .pointer (some ⟨w.heap.size, 1, none⟩) :: .int .i64 m.c :: .func (.func 78) #[] #[.pointer (some ⟨w.heap.size + 1 + 1 + 1 + 1 + 1, 0, none⟩), .pointer (some ⟨w.heap.size + 1 + 1 + 1 + 1, 0, none⟩)] :: .bool x :: undef :: undef :: undef :: undef :: undef :: undef :: undef :: undef :: undef :: undef :: undef :: undef :: undef :: undef :: undef :: undef :: undef :: undef :: undef :: undef :: undef :: undef :: undef :: undef :: undef :: undef :: undef :: undef :: undef :: undef :: undef :: undef :: undef :: undef :: undef :: undef :: undef :: undef :: undef :: undef :: undef :: undef :: undef :: undef :: []), defers := [] }) ?assign ?body ?done ?stop
  case rest0 =>
    obtain ⟨a2, c2, e2, -, hx⟩ := HP.out
    obtain ⟨b, off, e3, -⟩ := hx (by intro e; rw [e] at h; simp at h)
    have e4 : pa = a2 := by simp at e2; exact e2.1
    exact ⟨b, off, e4.trans e3, e4.trans e3⟩
  case assign =>
    intro lp x W K hK
    gi_wp2
    exact hK
  case body =>
    rintro lp pre x W hI hL
    have HI := Lib.hid hI
    obtain ⟨hok, ⟨v, hv, a, cc, rfl, hcc, hadr⟩, hbm, hbp, hbz, hbl⟩ := hI
    have HL := Lib.hid hL
    have HV := Lib.hid hv
    have HBL := Lib.hid hbl
    have c0 := (hv.cell 0).trans (rfl : _ = some (Value.slice a (p.length - pre.length) cc))
    have l0 := hv.lt
    have z0 := (hbz.cell 0).trans (rfl : _ = some (Value.bool false))
    have zl := hbz.lt
    have zf := hbz.frz 0
    have vf := hv.frz 0
    clear hok hv hbm hbp hbz hbl hL
    by_cases hk : pre.length < p.length
    · obtain ⟨b, off, rfl, rfl⟩ := hadr hk
      obtain ⟨a2, c2, e2, hm9, hx⟩ := HP.out.step HBL.out
      obtain ⟨b2, o2, e3, hx⟩ := hx (by intro e; rw [e] at hk; simp at hk)
      obtain ⟨rfl, rfl⟩ : b = b2 ∧ off = o2 := by
        have e4 : some (⟨b, off, none⟩ : Addr) = a2 := by simp at e2; exact e2.1
        rw [e3] at e4; simpa using e4
      have y0 := hx pre.length _ (getD_of hk)
      have yl := World.block_lt_of_cell? _ _ y0
      have yl : b < W.heap.size := yl
      clear e2 e3 hx hm9
      obtain ⟨y, hy⟩ : ∃ z9, p.getD pre.length 0 = z9 := ⟨_, rfl⟩
      have HY := Lib.hid hy
      rw [hy] at y0
      clear hy
      obtain ⟨nn, hnn⟩ : ∃ z9, p.length - pre.length = z9 := ⟨_, rfl⟩
      have HNN := Lib.hid hnn
      have hn1 : 0 < nn := by omega
      have hn2 : nn ≤ cc := by omega
      rw [hnn] at c0 HV
      have HKK := Lib.hid hk
      clear hnn hadr hcc hk
      have t1 : ((nn : Int) == 0) = false := by simp; omega
      have t2 : (0 : Int) < (nn : Int) := by omega
      have t3 : ¬ nn = 0 := by omega
      cases x
      · by_cases hq : y = -1
        · subst hq
          have u1 : ((-1 : Int) == -1) = true := by rfl
          have HCK := Lib.hid (show chkB false (p.getD pre.length 0) = false by unfold chkB; rw [HY.out, decide_eq_true (rfl : (-1 : Int) = -1)]; rfl)
          obtain ⟨r, hr⟩ := HL.out
          have HBAD := Lib.hid (show fmOK (fmL i c) p = false by rw [hr]; exact ok_bad (.inr HCK.out))
          clear hr
          gi_wp2_with fail
          refine ⟨trivial, ?_⟩
          · rename_i xx bb hh1 hh2
            exact absurd (Option.some.inj hh1) (fun e => nomatch e)
          · rename_i xx bb hh1 hh2
            exact absurd (Option.some.inj hh1) (fun e => nomatch e)
          · refine ⟨trivial, ?_⟩
            gi_wp2_with fail
            exact ⟨KeepsOthers.setCell _ _ _, rfl, HBAD.out, HI.out.bz.set 0 (.bool false) rfl, HI.out.bl.setCell (p := ⟨w.heap.size + 1 + 1, 0, none⟩) (by show w.heap.size ≤ w.heap.size + 1 + 1; omega) _⟩
        · cases hdg : inB 0 2147483646 y
          · have HDG := Lib.hid hdg
            clear hdg
            have u1 : (y == -1) = false := by simpa using hq
            have HCK := Lib.hid (show chkB false (p.getD pre.length 0) = false by unfold chkB; rw [HY.out, decide_eq_false hq, HDG.out]; rfl)
            clear hq
            obtain ⟨r, hr⟩ := HL.out
            have HBAD := Lib.hid (show fmOK (fmL i c) p = false by rw [hr]; exact ok_bad (.inr HCK.out))
            clear hr
            gi_wp2_with fail
            refine ⟨trivial, ?_⟩
            refine ((callsIn_wide.2 (digs_any _ [y] _ (ints_lit W [y] #[.int .i64 y] 3 rfl (by simp) 1 rfl _ rfl))).inRound _).mono ?_
            rintro e wq ⟨rfl, rfl⟩
            rw [wi_one, HDG.out]
            gi_wp2
            exact ⟨(KeepsOthers.setCell _ _ _).trans (KeepsOthers.alloc _ _), rfl, HBAD.out, (HI.out.bz.set 0 (.bool false) rfl).step (al _ _), (HI.out.bl.setCell (p := ⟨w.heap.size + 1 + 1, 0, none⟩) (by show w.heap.size ≤ w.heap.size + 1 + 1; omega) _).alloc (by have := HI.out.bl.size; simpa using this) _⟩
          · have HDG := Lib.hid hdg
            clear hdg
            have u1 : (y == -1) = false := by simpa using hq
            have HCK := Lib.hid (show chkB false (p.getD pre.length 0) = true by unfold chkB; rw [HY.out, decide_eq_false hq, HDG.out]; rfl)
            clear hq
            by_cases hc1 : cc = 1
            · subst hc1
              gi_wp2_with fail
              refine ⟨trivial, ?_⟩
              refine ((callsIn_wide.2 (digs_any _ [y] _ (ints_lit W [y] #[.int .i64 y] 3 rfl (by simp) 1 rfl _ rfl))).inRound _).mono ?_
              rintro e wq ⟨rfl, rfl⟩
              rw [wi_one, HDG.out]
              gi_wp2
              have hnx := HKK.out
              have hnn := HNN.out
              have hcx := HCK.out
              exact ⟨(KeepsOthers.setCell _ _ _).trans (KeepsOthers.alloc _ _), (HI.out.next hnx hcx (.one hnn hn1 hn2)).al _, (SameB.set W (by omega) _).al _, (SameB.set W (by omega) _).al _⟩
            · gi_wp2_with fail
              refine ⟨trivial, ?_⟩
              refine ((callsIn_wide.2 (digs_any _ [y] _ (ints_lit W [y] #[.int .i64 y] 3 rfl (by simp) 1 rfl _ rfl))).inRound _).mono ?_
              rintro e wq ⟨rfl, rfl⟩
              rw [wi_one, HDG.out]
              gi_wp2
              have hnx := HKK.out
              have hnn := HNN.out
              have hcx := HCK.out
              exact ⟨(KeepsOthers.setCell _ _ _).trans (KeepsOthers.alloc _ _), (HI.out.next hnx hcx (.more hnn hn1 hn2)).al _, (SameB.set W (by omega) _).al _, (SameB.set W (by omega) _).al _⟩
      · by_cases hq : y = -1
        · subst hq
          have u1 : ((-1 : Int) == -1) = true := by rfl
          have HCK := Lib.hid (show chkB true (p.getD pre.length 0) = true by unfold chkB; rw [HY.out, decide_eq_true (rfl : (-1 : Int) = -1)]; rfl)
          by_cases hc1 : cc = 1
          · subst hc1
            gi_wp2_with fail
            refine ⟨trivial, ?_⟩
            gi_wp2
            have hnx := HKK.out
            have hnn := HNN.out
            have hcx := HCK.out
            exact ⟨KeepsOthers.setCell _ _ _, (HI.out.next hnx hcx (.one hnn hn1 hn2)), (SameB.set W (by omega) _), (SameB.set W (by omega) _)⟩
          · gi_wp2_with fail
            refine ⟨trivial, ?_⟩
            gi_wp2
            have hnx := HKK.out
            have hnn := HNN.out
            have hcx := HCK.out
            exact ⟨KeepsOthers.setCell _ _ _, (HI.out.next hnx hcx (.more hnn hn1 hn2)), (SameB.set W (by omega) _), (SameB.set W (by omega) _)⟩
        · have u1 : (y == -1) = false := by simpa using hq
          have HCK := Lib.hid (show chkB true (p.getD pre.length 0) = false by unfold chkB; rw [HY.out, decide_eq_false hq]; rfl)
          clear hq
          obtain ⟨r, hr⟩ := HL.out
          have HBAD := Lib.hid (show fmOK (fmL i c) p = false by rw [hr]; exact ok_bad (.inr HCK.out))
          clear hr
          gi_wp2_with fail
          refine ⟨trivial, ?_⟩
          · rename_i xx bb hh1 hh2
            exact absurd (Option.some.inj hh1) (fun e => nomatch e)
          · rename_i xx bb hh1 hh2
            exact absurd (Option.some.inj hh1) (fun e => nomatch e)
          · refine ⟨trivial, ?_⟩
            gi_wp2_with fail
            exact ⟨KeepsOthers.setCell _ _ _, rfl, HBAD.out, HI.out.bz.set 0 (.bool false) rfl, HI.out.bl.setCell (p := ⟨w.heap.size + 1 + 1, 0, none⟩) (by show w.heap.size ≤ w.heap.size + 1 + 1; omega) _⟩
    · have hnn : p.length - pre.length = 0 := by omega
      have HBD := Lib.hid (show p.length ≤ pre.length by omega)
      rw [hnn] at c0 HV
      clear hnn hadr hcc hk
      obtain ⟨r, hr⟩ := HL.out
      have HBAD := Lib.hid (show fmOK (fmL i c) p = false by rw [hr]; exact ok_bad (.inl HBD.out))
      clear hr
      gi_wp2_with fail
      refine ⟨trivial, ?_⟩
      · rename_i xx bb hh1 hh2
        exact absurd (Option.some.inj hh1) (fun e => nomatch e)
      · rename_i xx bb hh1 hh2
        exact absurd (Option.some.inj hh1) (fun e => nomatch e)
      · refine ⟨trivial, ?_⟩
        gi_wp2_with fail
        exact ⟨KeepsOthers.setCell _ _ _, rfl, HBAD.out, HI.out.bz.set 0 (.bool false) rfl, HI.out.bl.setCell (p := ⟨w.heap.size + 1 + 1, 0, none⟩) (by show w.heap.size ≤ w.heap.size + 1 + 1; omega) _⟩
  case done =>
    rintro D W hD hI hm
    have HI := Lib.hid hI
    obtain ⟨hok, ⟨v, hv, a, cc, rfl, hcc, hadr⟩, hbm, hbp, hbz, hbl⟩ := hI
    have HD9 := Lib.hid hD
    have HM := Lib.hid hm
    have HBL := Lib.hid hbl
    have HOK := Lib.hid hok
    have HV := Lib.hid hv
    have HBM := Lib.hid hbm
    have HBZ := Lib.hid hbz
    have x9 := HD.out.step HBL.out
    have x8 := HP.out.step HBL.out
    have c1 := (hbp.cell 1).trans (rfl : _ = some (Value.slice da d.length dc))
    have c0 := (hbp.cell 0).trans (rfl : _ = some (Value.int .i64 i))
    have c2 := (hbp.cell 2).trans (rfl : _ = some (Value.slice pa p.length pc))
    have l1 := hbp.lt
    clear hok hv hbm hbp hbz hbl hD hm hcc hadr
    have X9 := Lib.hid x9
    have X8 := Lib.hid x8
    clear x9 x8
    gi_wp2_with fail
    refine ⟨trivial, ?_⟩
    refine (callsIn_wide.2 (climb_any _ _ d p i W X9.out X8.out H9.out (by have := HI9.out; omega))).mono ?_
    rintro e w9 ⟨⟨u, rfl, -⟩, hb9⟩
    have HB9 := Lib.hid hb9
    clear c0 c1 c2 l1 hb9
    have hv := HV.out.step HB9.out
    have hm := HBM.out.step HB9.out
    have hz := HBZ.out.step HB9.out
    have c0 := (hv.cell 0).trans (rfl : _ = some (Value.slice a (p.length - (fmL i c).length) cc))
    have c3 := (hm.cell 3).trans (rfl : _ = some (Value.int .i64 m.r))
    have z0 := (hz.cell 0).trans (rfl : _ = some (Value.bool false))
    have zf := hz.frz 0
    have l0 := hv.lt
    have l3 := hm.lt
    have lz := hz.lt
    have HZ := Lib.hid hz
    clear hv hm hz
    obtain ⟨h, hh⟩ : ∃ z9, clH d i p = z9 := ⟨_, rfl⟩
    have HH := Lib.hid hh
    rw [hh]
    clear hh
    obtain ⟨nn, hnn⟩ : ∃ z9, p.length - (fmL i c).length = z9 := ⟨_, rfl⟩
    have HNN := Lib.hid hnn
    rw [hnn] at c0
    clear hnn
    by_cases hn0 : nn = 0
    · subst hn0
      gi_wp2
      have HBX := Lib.hid (HZ.out.set 0 (.bool (h == m.r)) rfl)
      have hdl : D < W.heap.size := (Array.getElem?_eq_some_iff.1 HM.out).1
      have hdz : D ≠ w.heap.size + 1 + 1 := by have := HD9.out; omega
      have hm9 := (Below.heap_setCell w9 ⟨w.heap.size + 1 + 1, 0, none⟩ (.bool (h == m.r)) D hdz).trans ((HB9.out.block D hdl).trans HM.out)
      have k0 := ((show BoxN _ (w.heap.size + 1 + 1) #[.bool (h == m.r)] 4 from (World.putObj_heap_other (o := .deferred none) (Ne.symm hdz)).trans HBX.out).cell 0).trans (rfl : _ = some (Value.bool (h == m.r)))
      refine ⟨by simp, .inl ⟨_, _, rfl, run_takeDeferred hm9, ?_⟩⟩
      refine ⟨.bool (h == m.r), by simp [results, Try.results53, go_sem, k0], ?_, ?_⟩
      · have := HNN.out
        have := HOK.out.1
        unfold prB
        rw [HOK.out.done, HH.out, decide_eq_true (show (fmL i c).length = p.length by omega), Bool.true_and]; rfl
      · exact (((HBL.out).trans (HB9.out.mono HBL.out.size)).setCell (p := ⟨w.heap.size + 1 + 1, 0, none⟩) (by show w.heap.size ≤ w.heap.size + 1 + 1; omega) _).trans (belowK_b (w := w) (Nat.le_refl _) _ D _ _ (by have := HD9.out; omega) hm9 rfl rfl)
    · have hq0 : ((nn : Int) == 0) = false := by simpa using hn0
      gi_wp2
      have HBX := Lib.hid (HZ.out.set 0 (.bool (false)) rfl)
      have hdl : D < W.heap.size := (Array.getElem?_eq_some_iff.1 HM.out).1
      have hdz : D ≠ w.heap.size + 1 + 1 := by have := HD9.out; omega
      have hm9 := (Below.heap_setCell w9 ⟨w.heap.size + 1 + 1, 0, none⟩ (.bool (false)) D hdz).trans ((HB9.out.block D hdl).trans HM.out)
      have k0 := ((show BoxN _ (w.heap.size + 1 + 1) #[.bool (false)] 4 from (World.putObj_heap_other (o := .deferred none) (Ne.symm hdz)).trans HBX.out).cell 0).trans (rfl : _ = some (Value.bool (false)))
      refine ⟨by simp, .inl ⟨_, _, rfl, run_takeDeferred hm9, ?_⟩⟩
      refine ⟨.bool (false), by simp [results, Try.results53, go_sem, k0], ?_, ?_⟩
      · have := HNN.out
        have := HOK.out.1
        unfold prB
        rw [HOK.out.done, HH.out, decide_eq_false (show ¬ (fmL i c).length = p.length by omega), Bool.false_and]
      · exact (((HBL.out).trans (HB9.out.mono HBL.out.size)).setCell (p := ⟨w.heap.size + 1 + 1, 0, none⟩) (by show w.heap.size ≤ w.heap.size + 1 + 1; omega) _).trans (belowK_b (w := w) (Nat.le_refl _) _ D _ _ (by have := HD9.out; omega) hm9 rfl rfl)
  case stop =>
    rintro D cd pre W hD - ⟨rfl, hbad, hz, hbl⟩ hm
    have HD9 := Lib.hid hD
    have HBAD := Lib.hid hbad
    have HM := Lib.hid hm
    have HBL := Lib.hid hbl
    have hdz : D ≠ w.heap.size + 1 + 1 := by omega
    have k0 := ((show BoxN _ (w.heap.size + 1 + 1) #[.bool false] 4 from (World.putObj_heap_other (o := .deferred none) (Ne.symm hdz)).trans hz).cell 0).trans (rfl : _ = some (Value.bool false))
    have K0 := Lib.hid k0
    clear hbad hbl hm hz k0 hD hdz
    gi_wp2
    have k0 := K0.out
    refine ⟨by simp, .inl ⟨_, _, rfl, run_takeDeferred HM.out, ?_⟩⟩
    refine ⟨.bool false, by simp [results, Try.results53, go_sem, k0], ?_, ?_⟩
    · unfold prB
      rw [HBAD.out, Bool.false_and]
    · exact HBL.out.trans (belowK_b (w := w) (Nat.le_refl _) _ D _ _ (by have := HD9.out; omega) HM.out rfl rfl)
theorem proved_any (m : Mf) (i c : Nat) (vd : Value) (d : List Int) (vp : Value) (p : List Int) (w : World) (hd : IntsAt w vd d) (hp : CapI w vp p) (hm : mfB m = true) (hc : m.c = c) (hi9 : i ≤ 64) (h9 : d.length ≤ 100000) :
    Calls Try.prog 53 #[.agg #[.int .i64 m.v, .int .i64 m.c, .int .i64 m.s, .int .i64 m.r, .int .i64 m.t], .agg #[.int .i64 (i : Int), vd, vp]] w fun e w' => e = .returned (.bool (prB m i c d p)) ∧ Below w.heap.size w w' :=
  callsIn_wide.1 (proved_in m i c vd d vp p w hd hp hm hc hi9 h9)
end Go.Proofs.Yteodafhgfcbdpaa
