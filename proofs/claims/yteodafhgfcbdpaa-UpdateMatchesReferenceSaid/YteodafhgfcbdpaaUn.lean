import Derived.ChangeSame
import Derived.Deep.Strs
import Derived.RowKit
import Derived.Test.YteodafhgfcbdpaaLb
import Derived.Test.YteodafhgfcbdpaaIv
import Derived.Maps.AppendAt
import Derived.BigQuiet
import Derived.Deep.CutRange
namespace Go.Proofs.Yteodafhgfcbdpaa
open Go.RowKit Go.WideShapes Go.ChangeShapes Go.Joins Go.Deep

theorem ownK : ownKnob Try.prog.godebug = none := by kernel_rfl
theorem laidO : laidOutB Try.prog = true := by kernel_rfl
theorem cells3 : Try.prog.cellsOf 3 = 1 := by kernel_rfl
theorem cells22 : Try.prog.cellsOf 22 = 1 := by kernel_rfl
theorem plain_of {w : World} {a : Addr} {v : Value} (h : w.cell? (a.add 0) = some v) : ∃ b off, a = ⟨b, off, none⟩ := by
  obtain ⟨b, off, spot⟩ := a
  have hspot : spot = none := by simpa [Addr.add] using World.cell?_spot h
  subst hspot
  exact ⟨b, off, rfl⟩
theorem range_get {α : Type} (f : Nat → α) (len i : Nat) (x : α) (h : ((List.range len).map f)[i]? = some x) : i < len ∧ x = f i := by
  rw [List.getElem?_map] at h
  by_cases hi : i < len
  · simp [hi] at h; exact ⟨hi, h.symm⟩
  · simp [hi] at h
variable {H : Type} {enc : TypeId × Value → H} {w : World} {base : Nat} {sp : Nat → Bool} {held : Bool} {r : Reach} {b0 : Nat} {v : Value} {d : DataW H} {p : List MemPlace}
theorem open22 {k : Nat} {cs : List Value} {x : DataW H × List MemPlace} (h : DataW.trod enc Try.prog w base sp held k 22 cs = some x) : ∃ v l, cs = [v] ∧ IntsAt w v l := by
  obtain ⟨d, p⟩ := x
  rcases open_ints Try.underlying22 Try.underlying3 cells3 h with ⟨e, _⟩ | ⟨ad, len, cap, zs, e, _, hl, hm, hz, _, hc, _⟩
  · exact ⟨_, [], e, ints_nil _⟩
  · have hle : len ≤ zs.length := by rw [hz]; split <;> omega
    refine ⟨_, zs.take len, e, some ad, cap, by simp; omega, by simp; omega, fun hne => ?_⟩
    have hpos : 0 < len := by
      apply Classical.byContradiction; intro h0
      exact hne (by rw [show len = 0 by omega]; rfl)
    obtain ⟨b, off, rfl⟩ := plain_of (hc 0 (by omega))
    refine ⟨b, off, rfl, fun i x hi => ?_⟩
    rw [List.getElem?_take] at hi
    split at hi
    · rename_i hlt
      have := hc i (by omega)
      rw [add_plain] at this
      rw [this]
      simp [List.getD_eq_getElem?_getD, hi]
    · cases hi
theorem arg_ints (hv : Value.okWide Try.prog w r b0 22 v) (h0 : DataW.Trod enc Try.prog w base sp held 22 v d p) : ∃ l, IntsAt w v l := by
  obtain ⟨a, n, c, rfl⟩ := okWide_slice Try.underlying22 hv
  obtain ⟨k, h⟩ := h0
  obtain ⟨v, l, e, h1⟩ := open22 (cs := [.slice a n c]) h
  simp only [List.cons.injEq, and_true] at e
  exact ⟨l, by rw [e]; exact h1⟩
theorem arg_int {t : TypeId} {k : IntKind} (ht : Try.prog.underlying t = some (.int k)) (hv : Value.okWide Try.prog w r b0 t v) (h : DataW.Trod enc Try.prog w base sp held t v d p) : ∃ x : Int, v = .int k x ∧ k.min ≤ x ∧ x ≤ k.max := by
  obtain ⟨x, rfl, -, -, hw⟩ := open_int ht hv h
  refine ⟨x, rfl, ?_⟩
  have : (decide (k.min ≤ x) && decide (x ≤ k.max)) = true := hw
  rw [Bool.and_eq_true, decide_eq_true_iff, decide_eq_true_iff] at this
  exact this
open Go.RowKit Go.WideShapes Go.ChangeShapes Go.Joins Go.Deep

def upv (vs : Nat → Value) (i : Nat) (x : Value) : Nat → Value := fun k => cond (k == i) x (vs k)
theorem upv_same (vs : Nat → Value) (i : Nat) (x : Value) : upv vs i x i = x := by simp [upv]
theorem upv_ne (vs : Nat → Value) (i k : Nat) (x : Value) (h : k ≠ i) : upv vs i x k = vs k := by
  have : (k == i) = false := by simp [h]
  simp [upv, this]
/-- A region that only makes memory: what each operation's value is. -/
def RS (lit : (Nat → Value) → Act) (W : World) (G : Nat → Value → World → Prop) (bf : Nat → Bool) (ac : Act) (wv : World) : Prop :=
  ∃ vs, ac = lit vs ∧ Below W.heap.size W wv ∧ ∀ i, bf i = true → G i (vs i) wv
theorem RS.next {lit : (Nat → Value) → Act} {W : World} {G : Nat → Value → World → Prop} {bf : Nat → Bool} {wv : World} {vs : Nat → Value} (i : Nat) {x : Value} {w' : World} {ac' : Act} (hac : ac' = lit (upv vs i x))
    (k : ∀ i, bf i = true → G i (vs i) wv) (hb : Below W.heap.size W w') (hs : ∀ k v, G k v wv → G k v w') (hx : G i x w') : RS lit W G (up bf i) ac' w' := by
  refine ⟨upv vs i x, hac, hb, fun j hu => ?_⟩
  by_cases e : j = i
  · subst e; rw [upv_same]; exact hx
  · rw [up_ne _ _ _ e] at hu; rw [upv_ne _ _ _ _ e]; exact hs _ _ (k j hu)
variable {H : Type} {enc : TypeId × Value → H} {w : World} {base : Nat} {sp : Nat → Bool} {held : Bool} {r : Reach} {b0 : Nat} {v : Value} {d : DataW H} {p : List MemPlace}
open Go.RowKit

/-- An append of a list of numbers that may be nil, as an equation. -/
theorem run_appI (w : World) (base n : Nat) (v sl : Value) (xs : List Value) (l : List Int) (ty : TypeId) (hown : w.ownsRow base 3 1 v n xs) (h : IntsAt w sl l) (hn : n + l.length ≤ 10000) (hb : base ≤ w.heap.size) :
    ∃ v' w', (Builtin.append_ #[22, 22] ty #[v, sl]).run Try.prog w = .ok v' w' ∧ w'.ownsRow base 3 1 v' (n + l.length) (xs ++ l.map (Value.int .i64)) ∧ w.grownBy w' v.ownBlock := by
  obtain ⟨i0, hi, hz0, hz1, hz2⟩ := info_parts infoInt
  obtain ⟨a, cap, rfl, hm, hc⟩ := h
  cases a with
  | none =>
    have hl : l = [] := by
      cases l with
      | nil => rfl
      | cons x l => obtain ⟨b, off, e, -⟩ := hc (by simp); cases e
    subst hl
    have hg : w.grownBy w v.ownBlock := ⟨rfl, rfl, rfl, Nat.le_refl _, fun _ _ _ => rfl⟩
    refine ⟨v, w, ?_, by simpa using hown, hg⟩
    rcases hown.2 with ⟨rfl, rfl⟩ | ⟨g, c, cur, rfl, _, _, hnc, _⟩
    · simp [Builtin.append_, run_underlying Try.underlying22, sizeOf, typeInfo, hi, Builtin.lenOf, Builtin.firstCells]
    · simp [Builtin.append_, run_underlying Try.underlying22, sizeOf, typeInfo, hi, Builtin.lenOf, Builtin.firstCells, hnc, storeCells]
  | some ad =>
    have hcell := in_cells (w := w) (a := some ad) (cap := cap) (l := l) ⟨some ad, cap, rfl, hm, hc⟩ ad rfl
    obtain ⟨v', w', h1, h2, h3, -, -⟩ := run_append_own_at (P := Try.prog) w base 22 ty 3 i0 _ 1 8 Try.underlying22 hi hz0 hz1 hz2 rfl (by decide) v n xs hown ad l.length cap (l.map (Value.int .i64)) (by simp) hcell (in_one l) (by unfold maxLen; omega) (by omega) hb
    exact ⟨v', w', h1, h2, h3⟩
theorem wpList_appI {ops : Array Oper} {rest : List Oper} {o : Oper} {a : Act} {w w' : World} {Q : Exit → Act → World → Prop} (hgd : o.guard = none) (s x : Operand) (t : TypeId)
    (ho : o.op = .call { callee := .builtin .append, args := #[s, x], argTypes := #[t, t] }) (v sl v' : Value) (hs : a.eval s = v) (hx : a.eval x = sl)
    (hr : (Builtin.append_ #[t, t] o.type #[v, sl]).run Try.prog w = .ok v' w') (h : wpList Try.prog ops Q rest (a.put o.dst v') w') : wpList Try.prog ops Q (o :: rest) a w := by
  refine wpList_step fun K hK => ?_
  rw [if_pos (by simp [Region.wanted, hgd])]
  unfold Oper.wp execOp
  simp only [ho, resolve, invoke, builtin, Sem.run_bind, Sem.run_pure, Result.andThen_ok, List.map_toArray, List.map_cons, List.map_nil, hs, hx, hr]
  exact hK _ _ h
theorem row_empty (w : World) : (w.alloc (.cells #[] 3)).ownsRow w.heap.size 3 1 (.slice (some ⟨w.heap.size, 0, none⟩) 0 0) 0 [] :=
  ⟨rfl, .inr ⟨w.heap.size, 0, _, rfl, Nat.le_refl _, heap_alloc_new _ _, by omega, by unfold maxLen; omega, rfl, rfl⟩⟩
/-- A copy by an append behind an empty list. -/
theorem copy_run (w : World) (sl : Value) (l : List Int) (ty : TypeId) (h : IntsAt w sl l) (hn : l.length ≤ 5000) :
    ∃ v' w', (Builtin.append_ #[22, 22] ty #[.slice (some ⟨w.heap.size, 0, none⟩) 0 0, sl]).run Try.prog (w.alloc (.cells #[] 3)) = .ok v' w' ∧ w'.ownsRow w.heap.size 3 1 v' l.length (l.map (Value.int .i64)) ∧ Below w.heap.size w w' := by
  obtain ⟨v', w', h1, h2, h3⟩ := run_appI (w.alloc (.cells #[] 3)) w.heap.size 0 _ sl [] l ty (row_empty w) (h.step (al _ _)) (by omega) (by simp)
  refine ⟨v', w', h1, by rw [Nat.zero_add] at h2; exact h2, (al w _).grown h3 (by simp) (fun k e => by cases e; exact Nat.le_refl _)⟩
open Go.RowKit

theorem take_eq_iff {l l' : List Int} (k : Nat) (hk : k < l.length) (hk' : k < l'.length) (h : l.take k = l'.take k) : l.take (k + 1) = l'.take (k + 1) ↔ l.getD k 0 = l'.getD k 0 := by
  rw [List.take_succ_eq_append_getElem hk, List.take_succ_eq_append_getElem hk', h, List.append_right_inj]
  simp [hk, hk']
set_option maxRecDepth 100000 in
set_option maxHeartbeats 2000000 in
theorem ints_any (v u : Value) (l l' : List Int) (w : World) (h : IntsAt w v l) (h' : IntsAt w u l') :
    Calls Try.prog 21 #[v, u] w fun e w' => e = .returned (.bool (decide (l = l'))) ∧ ∃ n, w' = w.drewN n := by
  obtain ⟨a, cap, rfl, hm, hc⟩ := h
  obtain ⟨a', cap', rfl, hm', hc'⟩ := h'
  unfold maxLen at hm hm'
  have HC := Lib.hid hc
  have HC' := Lib.hid hc'
  clear hc hc'
  by_cases hl : l.length = l'.length
  · have hl1 : ((l.length : Int) != (l'.length : Int)) = false := by simp [hl]
    go_enter Try.func21, Try.ntmps21
    go_wp2_with fail
    go_loopw [5] (fun i wr => ∃ k n : Nat, k ≤ l.length ∧ i = .int .i64 k ∧ Hid (l.take k = l'.take k) ∧ wr = w.drewN n) (fun i _ => l.length - (intOf i).toNat)
    case atStart => exact ⟨0, 0, by omega, rfl, Lib.hid (by simp), rfl⟩
    case round =>
      obtain ⟨k, n, hk, rfl, hT, rfl⟩ := hrel
      by_cases hlt : k < l.length
      · obtain ⟨b, off, rfl, hcs⟩ := HC.out (by intro h; rw [h] at hlt; simp at hlt)
        obtain ⟨b', off', rfl, hcs'⟩ := HC'.out (by intro h; rw [h] at hl; simp at hl; rw [hl] at hlt; simp at hlt)
        have hx := hcs k _ (getD_of hlt)
        have hlt' : k < l'.length := by omega
        have hx' := hcs' k _ (getD_of hlt')
        have HE := Lib.hid (take_eq_iff k hlt hlt' hT.out)
        clear hcs hcs'
        obtain ⟨wq, hwq⟩ : ∃ wq, w.drewN n = wq := ⟨_, rfl⟩
        have hx2 : wq.cell? ⟨b, off + k, none⟩ = some (.int .i64 (l.getD k 0)) := by rw [← hwq]; exact hx
        have hx3 : wq.cell? ⟨b', off' + k, none⟩ = some (.int .i64 (l'.getD k 0)) := by rw [← hwq]; exact hx'
        have hNE := Lib.hid (show l.getD k 0 ≠ l'.getD k 0 → ¬ l = l' from fun hne e => hne (by rw [e]))
        rw [hwq]
        have HW := Lib.hid hwq
        clear hwq hx hx'
        generalize l.getD k 0 = x at *
        generalize l'.getD k 0 = y at *
        by_cases hxy : x = y
        · have e1 : (x != y) = false := by simp [hxy]
          have hT2 := Lib.hid (HE.out.2 hxy)
          subst hxy
          clear HE hNE
          go_wp2_with fail
          go_quiet (fail)
          go_wp2
          go_roundw
          case rel => exact ⟨k + 1, _, by omega, by go_num, hT2, by rw [← HW.out]; exact World.drewN_drewN _ _ _⟩
          case measure => simp [intOf]; omega
        · have e1 : (x != y) = true := by simp [hxy]
          have e2 : (x == y) = false := by simp [hxy]
          have hF := Lib.hid (hNE.out hxy)
          clear HE hNE
          go_wp2_with fail
          go_quiet (fail)
          go_wp2
          go_ret
          exact ⟨ret_bool (by rw [decide_eq_false hF.out]), _, by rw [← HW.out]; exact World.drewN_drewN _ _ _⟩
      · have hF := Lib.hid (show l = l' by have := hT.out; rwa [List.take_of_length_le (by omega), List.take_of_length_le (by omega)] at this)
        have hlt2 : l'.length ≤ k := by omega
        go_wp2
        go_ret
        exact ⟨ret_bool (by rw [decide_eq_true hF.out]), _, rfl⟩
  · have hl1 : ((l.length : Int) != (l'.length : Int)) = true := by simp; omega
    have hl2 : ((l.length : Int) == (l'.length : Int)) = false := by simp; omega
    have hF := Lib.hid (show ¬ l = l' from fun e => hl (by rw [e]))
    go_enter Try.func21, Try.ntmps21
    go_wp2
    go_ret
    exact ⟨ret_bool (by rw [decide_eq_false hF.out]), 0, rfl⟩
open Go.RowKit

def tgd (key : Int) (l : List Int) : List Int := key :: (l.length : Int) :: l
theorem tagd_run (w : World) (key : Int) (sl : Value) (l : List Int) (ty : TypeId) (h : IntsAt w sl l) (hn : l.length ≤ 5000) :
    ∃ v' w', (Builtin.append_ #[22, 22] ty #[.slice (some ⟨w.heap.size, 0, none⟩) 2 2, sl]).run Try.prog (w.alloc (.cells #[.int .i64 key, .int .i64 (l.length : Int)] 3)) = .ok v' w' ∧ (∃ a c, v' = .slice a (2 + l.length) c) ∧ IntsAt w' v' (tgd key l) ∧ Below w.heap.size w w' := by
  have hr : (w.alloc (.cells #[.int .i64 key, .int .i64 (l.length : Int)] 3)).ownsRow w.heap.size 3 1 (.slice (some ⟨w.heap.size, 0, none⟩) 2 2) 2 [.int .i64 key, .int .i64 (l.length : Int)] :=
    ⟨rfl, .inr ⟨w.heap.size, 2, _, rfl, Nat.le_refl _, heap_alloc_new _ _, by omega, by unfold maxLen; omega, rfl, rfl⟩⟩
  obtain ⟨v', w', h1, h2, h3⟩ := run_appI _ w.heap.size 2 _ sl _ l ty hr (h.step (al _ _)) (by omega) (by simp)
  refine ⟨v', w', h1, row_slice h2, ints_of_row (xs := tgd key l) (base := w.heap.size) (t := 3) ?_, (al w _).grown h3 (by simp) (fun k e => by cases e; exact Nat.le_refl _)⟩
  rw [show (tgd key l).length = 2 + l.length by simp [tgd]; omega]
  exact h2
set_option maxRecDepth 100000 in
set_option maxHeartbeats 8000000 in
theorem tagA_any (key : Int) (v : Value) (l : List Int) (w : World) (h : IntsAt w v l) (hl : l.length ≤ 5000) : Calls Try.prog 30 #[.int .i64 key, v] w fun e w' => e = .returned (.int .i64 (Dg (tgd key l))) ∧ Below w.heap.size w w' := by
  obtain ⟨v', w', h1, h2, h3, h4⟩ := tagd_run w key v l 22 h hl
  obtain ⟨a, cap, rfl, hm, -⟩ := h
  unfold maxLen at hm
  obtain ⟨ra, rc, rfl⟩ := h2
  have HI := Lib.hid h3
  have HB := Lib.hid h4
  clear h3 h4
  go_enter Try.func30, Try.ntmps30
  go_wp2_with (at_builtin; refine wpList_appI rfl _ _ 22 rfl _ _ (.slice ra (2 + l.length) rc) rfl rfl h1 ?_)
  refine (digest_any _ (tgd key l) _ HI.out).mono ?_
  rintro e w1 ⟨rfl, rfl⟩
  go_wp2
  go_ret
  exact ⟨rfl, HB.out⟩
set_option maxRecDepth 100000 in
set_option maxHeartbeats 8000000 in
theorem rtagdA_any (key : Int) (v : Value) (l : List Int) (w : World) (h : IntsAt w v l) (hl : l.length ≤ 5000) : Calls Try.prog 68 #[.int .i64 key, v] w fun e w' => ∃ u, e = .returned u ∧ IntsAt w' u (tgd key l) ∧ Below w.heap.size w w' := by
  obtain ⟨v', w', h1, h2, h3, h4⟩ := tagd_run w key v l 22 h hl
  obtain ⟨a, cap, rfl, hm, -⟩ := h
  unfold maxLen at hm
  obtain ⟨ra, rc, rfl⟩ := h2
  have HI := Lib.hid h3
  have HB := Lib.hid h4
  clear h3 h4
  go_enter Try.func68, Try.ntmps68
  go_wp2_with (at_builtin; refine wpList_appI rfl _ _ 22 rfl _ _ (.slice ra (2 + l.length) rc) rfl rfl h1 ?_)
  go_ret
  exact ⟨_, rfl, HI.out, HB.out⟩
open Go.RowKit

def inB (a b x : Int) : Bool := decide (a ≤ x) && decide (x ≤ b)
theorem inB_iff {a b x : Int} : inB a b x = true ↔ a ≤ x ∧ x ≤ b := by unfold inB; rw [Bool.and_eq_true, decide_eq_true_eq, decide_eq_true_eq]
theorem inB_low {a b x : Int} (h : x < a) : inB a b x = false := by unfold inB; rw [decide_eq_false (by omega), Bool.false_and]
theorem inB_high {a b x : Int} (h : b < x) : inB a b x = false := by unfold inB; rw [decide_eq_false (show ¬ x ≤ b by omega), Bool.and_false]
theorem inB_in {a b x : Int} (h1 : ¬ x < a) (h2 : ¬ b < x) : inB a b x = true := inB_iff.2 ⟨by omega, by omega⟩
def wiB (a b : Int) (l : List Int) : Bool := l.all (inB a b)
theorem wi_one (a b x : Int) : wiB a b [x] = inB a b x := by simp [wiB]
theorem wi_two (a b x y : Int) : wiB a b [x, y] = (inB a b x && inB a b y) := by simp [wiB]
theorem wi_all {a b : Int} {l : List Int} (h : ∀ j, j < l.length → inB a b (l.getD j 0) = true) : wiB a b l = true := by
  unfold wiB
  rw [List.all_eq_true]
  intro x hx
  obtain ⟨j, hj, rfl⟩ := List.getElem_of_mem hx
  have := h j hj
  simpa [hj] using this
theorem wi_hit {a b : Int} {l : List Int} {k : Nat} (h : k < l.length) (hb : inB a b (l.getD k 0) = false) : wiB a b l = false := by
  unfold wiB
  rw [List.all_eq_false]
  exact ⟨l.getD k 0, by simp [h], by rw [hb]; exact Bool.false_ne_true⟩
set_option maxRecDepth 100000 in
set_option maxHeartbeats 2000000 in
theorem within_any (a b : Int) (v : Value) (l : List Int) (w : World) (h : IntsAt w v l) : Calls Try.prog 32 #[.int .i64 a, .int .i64 b, v] w fun e w' => e = .returned (.bool (wiB a b l)) ∧ w = w' := by
  obtain ⟨p, cap, rfl, hm, hc⟩ := h
  unfold maxLen at hm
  have HC := Lib.hid hc
  clear hc
  go_enter Try.func32, Try.ntmps32
  go_wp2_with fail
  go_loopw [11] (fun i wr => ∃ k : Nat, k ≤ l.length ∧ i = .int .i64 k ∧ Hid (∀ j, j < k → inB a b (l.getD j 0) = true) ∧ wr = w) (fun i _ => l.length - (intOf i).toNat)
  case atStart => exact ⟨0, by omega, rfl, Lib.hid (fun j h => absurd h (by omega)), rfl⟩
  case round =>
    obtain ⟨k, hk, rfl, HN, rfl⟩ := hrel
    by_cases hlt : k < l.length
    · obtain ⟨b1, off, rfl, hcs2⟩ := HC.out (by intro h; rw [h] at hlt; simp at hlt)
      have x0 := hcs2 k _ (getD_of hlt)
      clear hcs2
      have HF := Lib.hid (wi_hit (a := a) (b := b) hlt)
      have HN2 := Lib.hid (show inB a b (l.getD k 0) = true → ∀ j, j < k + 1 → inB a b (l.getD j 0) = true from fun hx j h => by
        by_cases e : j = k
        · subst e; exact hx
        · exact HN.out j (by omega))
      clear HN
      have t1 : (k : Int) < (l.length : Int) := by omega
      generalize l.getD k 0 = x at *
      by_cases h1 : x < a
      · have HB := Lib.hid (HF.out (inB_low h1))
        go_wp2
        go_ret
        exact ⟨ret_bool HB.out.symm, rfl⟩
      · by_cases h2 : b < x
        · have HB := Lib.hid (HF.out (inB_high h2))
          go_wp2
          go_ret
          exact ⟨ret_bool HB.out.symm, rfl⟩
        · have HB := Lib.hid (inB_in h1 h2)
          go_wp2
          go_roundw
          case rel => exact ⟨k + 1, hlt, by go_num, Lib.hid (HN2.out HB.out), trivial⟩
          case measure => simp [intOf]; omega
    · obtain rfl : k = l.length := by omega
      have HA := Lib.hid (wi_all HN.out)
      go_wp2
      go_ret
      exact ⟨ret_bool HA.out.symm, rfl⟩
theorem digs_any (v : Value) (l : List Int) (w : World) (h : IntsAt w v l) : Calls Try.prog 31 #[v] w fun e w' => e = .returned (.bool (wiB 0 2147483646 l)) ∧ w = w' := by
  have H := Lib.hid h
  clear h
  go_enter Try.func31, Try.ntmps31
  go_wp2_with fail
  refine (within_any 0 2147483646 v l _ H.out).mono ?_
  rintro e w' ⟨rfl, rfl⟩
  go_wp2
  go_ret
  exact ⟨rfl, rfl⟩
def daB (l : List Int) : Bool := wiB (-1000000000) 1000000000 l
theorem isData_any (v : Value) (l : List Int) (w : World) (h : IntsAt w v l) : Calls Try.prog 33 #[v] w fun e w' => e = .returned (.bool (daB l)) ∧ w = w' := by
  have H := Lib.hid h
  clear h
  go_enter Try.func33, Try.ntmps33
  go_wp2_with fail
  refine (within_any (-1000000000) 1000000000 v l _ H.out).mono ?_
  rintro e w' ⟨rfl, rfl⟩
  go_wp2
  go_ret
  exact ⟨rfl, rfl⟩
/-- A manifest. -/
structure Mf where
  v : Int
  c : Int
  s : Int
  r : Int
  t : Int
def Mf.nums (m : Mf) : List Int := [m.v, m.c, m.s, m.r]
def tgM (key : Int) (m : Mf) : Int := Dg (tgd key m.nums)
def mfB (m : Mf) : Bool := inB 1 1000000 m.v && (inB 1 64 m.c && (inB 1 32 m.s && (inB 0 2147483646 m.r && inB 0 2147483646 m.t)))
/-- What can be a piece's data. -/
def ftB (m : Mf) (i : Int) (l : List Int) : Bool := inB 0 (m.c - 1) i && (inB (if i = m.c - 1 then 1 else m.s) m.s (l.length : Int) && daB l)
theorem mfB_parts {m : Mf} (h : mfB m = true) : (1 ≤ m.v ∧ m.v ≤ 1000000) ∧ (1 ≤ m.c ∧ m.c ≤ 64) ∧ (1 ≤ m.s ∧ m.s ≤ 32) ∧ (0 ≤ m.r ∧ m.r ≤ 2147483646) ∧ (0 ≤ m.t ∧ m.t ≤ 2147483646) := by
  unfold mfB at h
  simp only [Bool.and_eq_true, inB_iff] at h
  exact h
set_option maxRecDepth 100000 in
set_option maxHeartbeats 8000000 in
theorem tag_m (key : Int) (m : Mf) (w : World) : Calls Try.prog 39 #[.int .i64 key, .agg #[.int .i64 m.v, .int .i64 m.c, .int .i64 m.s, .int .i64 m.r, .int .i64 m.t]] w fun e w' => e = .returned (.int .i64 (tgM key m)) ∧ Below w.heap.size w w' := by
  have H0 := Lib.hid (Below.refl w.heap.size w)
  have H1 := Lib.hid (Cs.newB H0.out (w.heap.size) #[.int .i64 m.v, .int .i64 m.c, .int .i64 m.s, .int .i64 m.r, .int .i64 m.t] 24 (by simp))
  have H2 := Lib.hid (keep2 (al _ (.cells #[.int .i64 m.v, .int .i64 m.c, .int .i64 m.s, .int .i64 m.r, .int .i64 m.t] 24)) H0.out)
  clear H0
  go_enter Try.func39, Try.ntmps39
  have xm0 := H1.out.c 0 rfl
  have xm1 := H1.out.c 1 rfl
  have xm2 := H1.out.c 2 rfl
  have xm3 := H1.out.c 3 rfl
  have xm4 := H1.out.c 4 rfl
  have zm := H1.out.2.2
  go_wp2_with fail
  have H4 := Lib.hid (Cs.newB H2.out (w.heap.size + 1) #[.int .i64 m.v, .int .i64 m.c, .int .i64 m.s, .int .i64 m.r] 3 (by simp))
  have H5 := Lib.hid (H1.out.step (al _ (.cells #[.int .i64 m.v, .int .i64 m.c, .int .i64 m.s, .int .i64 m.r] 3)))
  clear H1
  have H6 := Lib.hid (keep2 (al _ (.cells #[.int .i64 m.v, .int .i64 m.c, .int .i64 m.s, .int .i64 m.r] 3)) H2.out)
  clear H2
  refine (tagA_any key _ [m.v, m.c, m.s, m.r] _ (ints_lit _ [m.v, m.c, m.s, m.r] #[.int .i64 m.v, .int .i64 m.c, .int .i64 m.s, .int .i64 m.r] 3 rfl (by simp) 4 rfl (w.heap.size + 1) (by simp)) (by simp)).mono ?_
  rintro e u1 ⟨rfl, b1⟩
  clear xm0 xm1 xm2 xm3 xm4 zm
  have H7 := Lib.hid (H5.out.step b1)
  clear H5
  have H8 := Lib.hid (H4.out.step b1)
  clear H4
  have H9 := Lib.hid (keep2 b1 H6.out)
  clear H6
  clear b1
  go_wp2
  go_ret
  exact ⟨rfl, H9.out⟩
set_option maxRecDepth 100000 in
set_option maxHeartbeats 8000000 in
theorem manif_0 (m : Mf) (w : World) (hk0 : inB 1 1000000 m.v = false) : Calls Try.prog 48 #[.agg #[.int .i64 m.v, .int .i64 m.c, .int .i64 m.s, .int .i64 m.r, .int .i64 m.t]] w fun e w' => e = .returned (.bool (mfB m)) ∧ Below w.heap.size w w' := by
  have HK0 := Lib.hid hk0
  have HR := Lib.hid (show mfB m = false by unfold mfB; rw [hk0]; rfl)
  clear hk0
  have H0 := Lib.hid (Below.refl w.heap.size w)
  have H1 := Lib.hid (Cs.newB H0.out (w.heap.size) #[.int .i64 m.v, .int .i64 m.c, .int .i64 m.s, .int .i64 m.r, .int .i64 m.t] 24 (by simp))
  have H2 := Lib.hid (keep2 (al _ (.cells #[.int .i64 m.v, .int .i64 m.c, .int .i64 m.s, .int .i64 m.r, .int .i64 m.t] 24)) H0.out)
  clear H0
  go_enter Try.func48, Try.ntmps48
  have xm0 := H1.out.c 0 rfl
  have xm1 := H1.out.c 1 rfl
  have xm2 := H1.out.c 2 rfl
  have xm3 := H1.out.c 3 rfl
  have xm4 := H1.out.c 4 rfl
  have zm := H1.out.2.2
  go_wp2_with fail
  have H4 := Lib.hid (Cs.newB H2.out (w.heap.size + 1) #[.int .i64 m.v] 3 (by simp))
  have H5 := Lib.hid (H1.out.step (al _ (.cells #[.int .i64 m.v] 3)))
  clear H1
  have H6 := Lib.hid (keep2 (al _ (.cells #[.int .i64 m.v] 3)) H2.out)
  clear H2
  refine (within_any 1 1000000 _ [m.v] _ (ints_lit _ [m.v] #[.int .i64 m.v] 3 rfl (by simp) 1 rfl (w.heap.size + 1) (by simp))).mono ?_
  rintro e wq7 ⟨rfl, rfl⟩
  rw [wi_one, HK0.out]
  clear xm0 xm1 xm2 xm3 xm4 zm
  have xm0 := H5.out.c 0 rfl
  have xm1 := H5.out.c 1 rfl
  have xm2 := H5.out.c 2 rfl
  have xm3 := H5.out.c 3 rfl
  have xm4 := H5.out.c 4 rfl
  have zm := H5.out.2.2
  go_wp2
  go_ret
  exact ⟨ret_bool HR.out.symm, H6.out⟩
set_option maxRecDepth 100000 in
set_option maxHeartbeats 8000000 in
theorem manif_1 (m : Mf) (w : World) (hk0 : inB 1 1000000 m.v = true) (hk1 : inB 1 64 m.c = false) : Calls Try.prog 48 #[.agg #[.int .i64 m.v, .int .i64 m.c, .int .i64 m.s, .int .i64 m.r, .int .i64 m.t]] w fun e w' => e = .returned (.bool (mfB m)) ∧ Below w.heap.size w w' := by
  have HK0 := Lib.hid hk0
  have HK1 := Lib.hid hk1
  have HR := Lib.hid (show mfB m = false by unfold mfB; rw [hk0, hk1]; simp)
  clear hk0 hk1
  have H0 := Lib.hid (Below.refl w.heap.size w)
  have H1 := Lib.hid (Cs.newB H0.out (w.heap.size) #[.int .i64 m.v, .int .i64 m.c, .int .i64 m.s, .int .i64 m.r, .int .i64 m.t] 24 (by simp))
  have H2 := Lib.hid (keep2 (al _ (.cells #[.int .i64 m.v, .int .i64 m.c, .int .i64 m.s, .int .i64 m.r, .int .i64 m.t] 24)) H0.out)
  clear H0
  go_enter Try.func48, Try.ntmps48
  have xm0 := H1.out.c 0 rfl
  have xm1 := H1.out.c 1 rfl
  have xm2 := H1.out.c 2 rfl
  have xm3 := H1.out.c 3 rfl
  have xm4 := H1.out.c 4 rfl
  have zm := H1.out.2.2
  go_wp2_with fail
  have H4 := Lib.hid (Cs.newB H2.out (w.heap.size + 1) #[.int .i64 m.v] 3 (by simp))
  have H5 := Lib.hid (H1.out.step (al _ (.cells #[.int .i64 m.v] 3)))
  clear H1
  have H6 := Lib.hid (keep2 (al _ (.cells #[.int .i64 m.v] 3)) H2.out)
  clear H2
  refine (within_any 1 1000000 _ [m.v] _ (ints_lit _ [m.v] #[.int .i64 m.v] 3 rfl (by simp) 1 rfl (w.heap.size + 1) (by simp))).mono ?_
  rintro e wq7 ⟨rfl, rfl⟩
  rw [wi_one, HK0.out]
  clear xm0 xm1 xm2 xm3 xm4 zm
  have xm0 := H5.out.c 0 rfl
  have xm1 := H5.out.c 1 rfl
  have xm2 := H5.out.c 2 rfl
  have xm3 := H5.out.c 3 rfl
  have xm4 := H5.out.c 4 rfl
  have zm := H5.out.2.2
  go_wp2_with fail
  have H9 := Lib.hid (Cs.newB H6.out (w.heap.size + 1 + 1) #[.int .i64 m.c] 3 (by simp))
  have H10 := Lib.hid (H5.out.step (al _ (.cells #[.int .i64 m.c] 3)))
  clear H5
  have H11 := Lib.hid (H4.out.step (al _ (.cells #[.int .i64 m.c] 3)))
  clear H4
  have H12 := Lib.hid (keep2 (al _ (.cells #[.int .i64 m.c] 3)) H6.out)
  clear H6
  refine (within_any 1 64 _ [m.c] _ (ints_lit _ [m.c] #[.int .i64 m.c] 3 rfl (by simp) 1 rfl (w.heap.size + 1 + 1) (by simp))).mono ?_
  rintro e wq13 ⟨rfl, rfl⟩
  rw [wi_one, HK1.out]
  clear xm0 xm1 xm2 xm3 xm4 zm
  have xm0 := H10.out.c 0 rfl
  have xm1 := H10.out.c 1 rfl
  have xm2 := H10.out.c 2 rfl
  have xm3 := H10.out.c 3 rfl
  have xm4 := H10.out.c 4 rfl
  have zm := H10.out.2.2
  go_wp2
  go_ret
  exact ⟨ret_bool HR.out.symm, H12.out⟩
set_option maxRecDepth 100000 in
set_option maxHeartbeats 8000000 in
theorem manif_2 (m : Mf) (w : World) (hk0 : inB 1 1000000 m.v = true) (hk1 : inB 1 64 m.c = true) (hk2 : inB 1 32 m.s = false) : Calls Try.prog 48 #[.agg #[.int .i64 m.v, .int .i64 m.c, .int .i64 m.s, .int .i64 m.r, .int .i64 m.t]] w fun e w' => e = .returned (.bool (mfB m)) ∧ Below w.heap.size w w' := by
  have HK0 := Lib.hid hk0
  have HK1 := Lib.hid hk1
  have HK2 := Lib.hid hk2
  have HR := Lib.hid (show mfB m = false by unfold mfB; rw [hk0, hk1, hk2]; simp)
  clear hk0 hk1 hk2
  have H0 := Lib.hid (Below.refl w.heap.size w)
  have H1 := Lib.hid (Cs.newB H0.out (w.heap.size) #[.int .i64 m.v, .int .i64 m.c, .int .i64 m.s, .int .i64 m.r, .int .i64 m.t] 24 (by simp))
  have H2 := Lib.hid (keep2 (al _ (.cells #[.int .i64 m.v, .int .i64 m.c, .int .i64 m.s, .int .i64 m.r, .int .i64 m.t] 24)) H0.out)
  clear H0
  go_enter Try.func48, Try.ntmps48
  have xm0 := H1.out.c 0 rfl
  have xm1 := H1.out.c 1 rfl
  have xm2 := H1.out.c 2 rfl
  have xm3 := H1.out.c 3 rfl
  have xm4 := H1.out.c 4 rfl
  have zm := H1.out.2.2
  go_wp2_with fail
  have H4 := Lib.hid (Cs.newB H2.out (w.heap.size + 1) #[.int .i64 m.v] 3 (by simp))
  have H5 := Lib.hid (H1.out.step (al _ (.cells #[.int .i64 m.v] 3)))
  clear H1
  have H6 := Lib.hid (keep2 (al _ (.cells #[.int .i64 m.v] 3)) H2.out)
  clear H2
  refine (within_any 1 1000000 _ [m.v] _ (ints_lit _ [m.v] #[.int .i64 m.v] 3 rfl (by simp) 1 rfl (w.heap.size + 1) (by simp))).mono ?_
  rintro e wq7 ⟨rfl, rfl⟩
  rw [wi_one, HK0.out]
  clear xm0 xm1 xm2 xm3 xm4 zm
  have xm0 := H5.out.c 0 rfl
  have xm1 := H5.out.c 1 rfl
  have xm2 := H5.out.c 2 rfl
  have xm3 := H5.out.c 3 rfl
  have xm4 := H5.out.c 4 rfl
  have zm := H5.out.2.2
  go_wp2_with fail
  have H9 := Lib.hid (Cs.newB H6.out (w.heap.size + 1 + 1) #[.int .i64 m.c] 3 (by simp))
  have H10 := Lib.hid (H5.out.step (al _ (.cells #[.int .i64 m.c] 3)))
  clear H5
  have H11 := Lib.hid (H4.out.step (al _ (.cells #[.int .i64 m.c] 3)))
  clear H4
  have H12 := Lib.hid (keep2 (al _ (.cells #[.int .i64 m.c] 3)) H6.out)
  clear H6
  refine (within_any 1 64 _ [m.c] _ (ints_lit _ [m.c] #[.int .i64 m.c] 3 rfl (by simp) 1 rfl (w.heap.size + 1 + 1) (by simp))).mono ?_
  rintro e wq13 ⟨rfl, rfl⟩
  rw [wi_one, HK1.out]
  clear xm0 xm1 xm2 xm3 xm4 zm
  have xm0 := H10.out.c 0 rfl
  have xm1 := H10.out.c 1 rfl
  have xm2 := H10.out.c 2 rfl
  have xm3 := H10.out.c 3 rfl
  have xm4 := H10.out.c 4 rfl
  have zm := H10.out.2.2
  go_wp2_with fail
  have H15 := Lib.hid (Cs.newB H12.out (w.heap.size + 1 + 1 + 1) #[.int .i64 m.s] 3 (by simp))
  have H16 := Lib.hid (H10.out.step (al _ (.cells #[.int .i64 m.s] 3)))
  clear H10
  have H17 := Lib.hid (H11.out.step (al _ (.cells #[.int .i64 m.s] 3)))
  clear H11
  have H18 := Lib.hid (H9.out.step (al _ (.cells #[.int .i64 m.s] 3)))
  clear H9
  have H19 := Lib.hid (keep2 (al _ (.cells #[.int .i64 m.s] 3)) H12.out)
  clear H12
  refine (within_any 1 32 _ [m.s] _ (ints_lit _ [m.s] #[.int .i64 m.s] 3 rfl (by simp) 1 rfl (w.heap.size + 1 + 1 + 1) (by simp))).mono ?_
  rintro e wq20 ⟨rfl, rfl⟩
  rw [wi_one, HK2.out]
  clear xm0 xm1 xm2 xm3 xm4 zm
  have xm0 := H16.out.c 0 rfl
  have xm1 := H16.out.c 1 rfl
  have xm2 := H16.out.c 2 rfl
  have xm3 := H16.out.c 3 rfl
  have xm4 := H16.out.c 4 rfl
  have zm := H16.out.2.2
  go_wp2
  go_ret
  exact ⟨ret_bool HR.out.symm, H19.out⟩
set_option maxRecDepth 100000 in
set_option maxHeartbeats 8000000 in
theorem manif_3 (m : Mf) (b : Bool) (w : World) (hk0 : inB 1 1000000 m.v = true) (hk1 : inB 1 64 m.c = true) (hk2 : inB 1 32 m.s = true) (hk3 : (inB 0 2147483646 m.r && inB 0 2147483646 m.t) = b) : Calls Try.prog 48 #[.agg #[.int .i64 m.v, .int .i64 m.c, .int .i64 m.s, .int .i64 m.r, .int .i64 m.t]] w fun e w' => e = .returned (.bool (mfB m)) ∧ Below w.heap.size w w' := by
  have HK0 := Lib.hid hk0
  have HK1 := Lib.hid hk1
  have HK2 := Lib.hid hk2
  have HK3 := Lib.hid hk3
  have HR := Lib.hid (show mfB m = b by unfold mfB; rw [hk0, hk1, hk2, hk3]; simp)
  clear hk0 hk1 hk2 hk3
  have H0 := Lib.hid (Below.refl w.heap.size w)
  have H1 := Lib.hid (Cs.newB H0.out (w.heap.size) #[.int .i64 m.v, .int .i64 m.c, .int .i64 m.s, .int .i64 m.r, .int .i64 m.t] 24 (by simp))
  have H2 := Lib.hid (keep2 (al _ (.cells #[.int .i64 m.v, .int .i64 m.c, .int .i64 m.s, .int .i64 m.r, .int .i64 m.t] 24)) H0.out)
  clear H0
  go_enter Try.func48, Try.ntmps48
  have xm0 := H1.out.c 0 rfl
  have xm1 := H1.out.c 1 rfl
  have xm2 := H1.out.c 2 rfl
  have xm3 := H1.out.c 3 rfl
  have xm4 := H1.out.c 4 rfl
  have zm := H1.out.2.2
  go_wp2_with fail
  have H4 := Lib.hid (Cs.newB H2.out (w.heap.size + 1) #[.int .i64 m.v] 3 (by simp))
  have H5 := Lib.hid (H1.out.step (al _ (.cells #[.int .i64 m.v] 3)))
  clear H1
  have H6 := Lib.hid (keep2 (al _ (.cells #[.int .i64 m.v] 3)) H2.out)
  clear H2
  refine (within_any 1 1000000 _ [m.v] _ (ints_lit _ [m.v] #[.int .i64 m.v] 3 rfl (by simp) 1 rfl (w.heap.size + 1) (by simp))).mono ?_
  rintro e wq7 ⟨rfl, rfl⟩
  rw [wi_one, HK0.out]
  clear xm0 xm1 xm2 xm3 xm4 zm
  have xm0 := H5.out.c 0 rfl
  have xm1 := H5.out.c 1 rfl
  have xm2 := H5.out.c 2 rfl
  have xm3 := H5.out.c 3 rfl
  have xm4 := H5.out.c 4 rfl
  have zm := H5.out.2.2
  go_wp2_with fail
  have H9 := Lib.hid (Cs.newB H6.out (w.heap.size + 1 + 1) #[.int .i64 m.c] 3 (by simp))
  have H10 := Lib.hid (H5.out.step (al _ (.cells #[.int .i64 m.c] 3)))
  clear H5
  have H11 := Lib.hid (H4.out.step (al _ (.cells #[.int .i64 m.c] 3)))
  clear H4
  have H12 := Lib.hid (keep2 (al _ (.cells #[.int .i64 m.c] 3)) H6.out)
  clear H6
  refine (within_any 1 64 _ [m.c] _ (ints_lit _ [m.c] #[.int .i64 m.c] 3 rfl (by simp) 1 rfl (w.heap.size + 1 + 1) (by simp))).mono ?_
  rintro e wq13 ⟨rfl, rfl⟩
  rw [wi_one, HK1.out]
  clear xm0 xm1 xm2 xm3 xm4 zm
  have xm0 := H10.out.c 0 rfl
  have xm1 := H10.out.c 1 rfl
  have xm2 := H10.out.c 2 rfl
  have xm3 := H10.out.c 3 rfl
  have xm4 := H10.out.c 4 rfl
  have zm := H10.out.2.2
  go_wp2_with fail
  have H15 := Lib.hid (Cs.newB H12.out (w.heap.size + 1 + 1 + 1) #[.int .i64 m.s] 3 (by simp))
  have H16 := Lib.hid (H10.out.step (al _ (.cells #[.int .i64 m.s] 3)))
  clear H10
  have H17 := Lib.hid (H11.out.step (al _ (.cells #[.int .i64 m.s] 3)))
  clear H11
  have H18 := Lib.hid (H9.out.step (al _ (.cells #[.int .i64 m.s] 3)))
  clear H9
  have H19 := Lib.hid (keep2 (al _ (.cells #[.int .i64 m.s] 3)) H12.out)
  clear H12
  refine (within_any 1 32 _ [m.s] _ (ints_lit _ [m.s] #[.int .i64 m.s] 3 rfl (by simp) 1 rfl (w.heap.size + 1 + 1 + 1) (by simp))).mono ?_
  rintro e wq20 ⟨rfl, rfl⟩
  rw [wi_one, HK2.out]
  clear xm0 xm1 xm2 xm3 xm4 zm
  have xm0 := H16.out.c 0 rfl
  have xm1 := H16.out.c 1 rfl
  have xm2 := H16.out.c 2 rfl
  have xm3 := H16.out.c 3 rfl
  have xm4 := H16.out.c 4 rfl
  have zm := H16.out.2.2
  go_wp2_with fail
  have H22 := Lib.hid (Cs.newB H19.out (w.heap.size + 1 + 1 + 1 + 1) #[.int .i64 m.r, .int .i64 m.t] 3 (by simp))
  have H23 := Lib.hid (H16.out.step (al _ (.cells #[.int .i64 m.r, .int .i64 m.t] 3)))
  clear H16
  have H24 := Lib.hid (H17.out.step (al _ (.cells #[.int .i64 m.r, .int .i64 m.t] 3)))
  clear H17
  have H25 := Lib.hid (H18.out.step (al _ (.cells #[.int .i64 m.r, .int .i64 m.t] 3)))
  clear H18
  have H26 := Lib.hid (H15.out.step (al _ (.cells #[.int .i64 m.r, .int .i64 m.t] 3)))
  clear H15
  have H27 := Lib.hid (keep2 (al _ (.cells #[.int .i64 m.r, .int .i64 m.t] 3)) H19.out)
  clear H19
  refine (digs_any _ [m.r, m.t] _ (ints_lit _ [m.r, m.t] #[.int .i64 m.r, .int .i64 m.t] 3 rfl (by simp) 2 rfl (w.heap.size + 1 + 1 + 1 + 1) (by simp))).mono ?_
  rintro e wq28 ⟨rfl, rfl⟩
  rw [wi_two, HK3.out]
  go_wp2
  go_ret
  exact ⟨ret_bool HR.out.symm, H27.out⟩
set_option maxRecDepth 100000 in
set_option maxHeartbeats 8000000 in
theorem manif_any (m : Mf) (w : World) : Calls Try.prog 48 #[.agg #[.int .i64 m.v, .int .i64 m.c, .int .i64 m.s, .int .i64 m.r, .int .i64 m.t]] w fun e w' => e = .returned (.bool (mfB m)) ∧ Below w.heap.size w w' := by
  cases h0 : inB 1 1000000 m.v
  · exact manif_0 m w h0
  · cases h1 : inB 1 64 m.c
    · exact manif_1 m w h0 h1
    · cases h2 : inB 1 32 m.s
      · exact manif_2 m w h0 h1 h2
      · exact manif_3 m _ w h0 h1 h2 rfl
set_option maxRecDepth 100000 in
set_option maxHeartbeats 8000000 in
theorem fit_y0 (m : Mf) (v : Value) (l : List Int) (w : World) (h : IntsAt w v l) (hm : mfB m = true) (hk0 : inB 0 (m.c - 1) (m.c - 1) = false) : Calls Try.prog 52 #[.agg #[.int .i64 m.v, .int .i64 m.c, .int .i64 m.s, .int .i64 m.r, .int .i64 m.t], .int .i64 (m.c - 1), v] w fun e w' => e = .returned (.bool (ftB m (m.c - 1) l)) ∧ Below w.heap.size w w' := by
  have HK0 := Lib.hid hk0
  have HR := Lib.hid (show ftB m (m.c - 1) l = false by unfold ftB; rw [if_pos rfl, hk0]; rfl)
  clear hk0
  have HI := Lib.hid h
  have H0 := Lib.hid (Below.refl w.heap.size w)
  have H1 := Lib.hid (Cs.newB H0.out (w.heap.size) #[.int .i64 m.v, .int .i64 m.c, .int .i64 m.s, .int .i64 m.r, .int .i64 m.t] 24 (by simp))
  have H2 := Lib.hid (keep2 (al _ (.cells #[.int .i64 m.v, .int .i64 m.c, .int .i64 m.s, .int .i64 m.r, .int .i64 m.t] 24)) H0.out)
  clear H0
  obtain ⟨⟨-, -⟩, ⟨c1, c9⟩, ⟨s1, s9⟩, -, -⟩ := mfB_parts hm
  clear hm
  obtain ⟨p, cap, rfl, hl, -⟩ := h
  unfold maxLen at hl
  have t1 : wrap64 (m.c - 1) = m.c - 1 := IntWalk.wrap64_in _ (by omega)
  go_enter Try.func52, Try.ntmps52
  have xm0 := H1.out.c 0 rfl
  have xm1 := H1.out.c 1 rfl
  have xm2 := H1.out.c 2 rfl
  have xm3 := H1.out.c 3 rfl
  have xm4 := H1.out.c 4 rfl
  have zm := H1.out.2.2
  go_wp2_with fail
  have H4 := Lib.hid (Cs.newB H2.out (w.heap.size + 1) #[.int .i64 (m.c - 1)] 3 (by simp))
  have H5 := Lib.hid (H1.out.step (al _ (.cells #[.int .i64 (m.c - 1)] 3)))
  clear H1
  have H6 := Lib.hid (keep2 (al _ (.cells #[.int .i64 (m.c - 1)] 3)) H2.out)
  clear H2
  refine (within_any 0 (m.c - 1) _ [(m.c - 1)] _ (ints_lit _ [(m.c - 1)] #[.int .i64 (m.c - 1)] 3 rfl (by simp) 1 rfl (w.heap.size + 1) (by simp))).mono ?_
  rintro e wq7 ⟨rfl, rfl⟩
  rw [wi_one, HK0.out]
  clear xm0 xm1 xm2 xm3 xm4 zm
  have xm0 := H5.out.c 0 rfl
  have xm1 := H5.out.c 1 rfl
  have xm2 := H5.out.c 2 rfl
  have xm3 := H5.out.c 3 rfl
  have xm4 := H5.out.c 4 rfl
  have zm := H5.out.2.2
  go_wp2
  go_ret
  exact ⟨ret_bool HR.out.symm, H6.out⟩
set_option maxRecDepth 100000 in
set_option maxHeartbeats 8000000 in
theorem fit_y1 (m : Mf) (v : Value) (l : List Int) (w : World) (h : IntsAt w v l) (hm : mfB m = true) (hk0 : inB 0 (m.c - 1) (m.c - 1) = true) (hk1 : inB 1 m.s (l.length : Int) = false) : Calls Try.prog 52 #[.agg #[.int .i64 m.v, .int .i64 m.c, .int .i64 m.s, .int .i64 m.r, .int .i64 m.t], .int .i64 (m.c - 1), v] w fun e w' => e = .returned (.bool (ftB m (m.c - 1) l)) ∧ Below w.heap.size w w' := by
  have HK0 := Lib.hid hk0
  have HK1 := Lib.hid hk1
  have HR := Lib.hid (show ftB m (m.c - 1) l = false by unfold ftB; rw [if_pos rfl, hk0, hk1]; simp)
  clear hk0 hk1
  have HI := Lib.hid h
  have H0 := Lib.hid (Below.refl w.heap.size w)
  have H1 := Lib.hid (Cs.newB H0.out (w.heap.size) #[.int .i64 m.v, .int .i64 m.c, .int .i64 m.s, .int .i64 m.r, .int .i64 m.t] 24 (by simp))
  have H2 := Lib.hid (keep2 (al _ (.cells #[.int .i64 m.v, .int .i64 m.c, .int .i64 m.s, .int .i64 m.r, .int .i64 m.t] 24)) H0.out)
  clear H0
  obtain ⟨⟨-, -⟩, ⟨c1, c9⟩, ⟨s1, s9⟩, -, -⟩ := mfB_parts hm
  clear hm
  obtain ⟨p, cap, rfl, hl, -⟩ := h
  unfold maxLen at hl
  have t1 : wrap64 (m.c - 1) = m.c - 1 := IntWalk.wrap64_in _ (by omega)
  go_enter Try.func52, Try.ntmps52
  have xm0 := H1.out.c 0 rfl
  have xm1 := H1.out.c 1 rfl
  have xm2 := H1.out.c 2 rfl
  have xm3 := H1.out.c 3 rfl
  have xm4 := H1.out.c 4 rfl
  have zm := H1.out.2.2
  go_wp2_with fail
  have H4 := Lib.hid (Cs.newB H2.out (w.heap.size + 1) #[.int .i64 (m.c - 1)] 3 (by simp))
  have H5 := Lib.hid (H1.out.step (al _ (.cells #[.int .i64 (m.c - 1)] 3)))
  clear H1
  have H6 := Lib.hid (keep2 (al _ (.cells #[.int .i64 (m.c - 1)] 3)) H2.out)
  clear H2
  refine (within_any 0 (m.c - 1) _ [(m.c - 1)] _ (ints_lit _ [(m.c - 1)] #[.int .i64 (m.c - 1)] 3 rfl (by simp) 1 rfl (w.heap.size + 1) (by simp))).mono ?_
  rintro e wq7 ⟨rfl, rfl⟩
  rw [wi_one, HK0.out]
  clear xm0 xm1 xm2 xm3 xm4 zm
  have xm0 := H5.out.c 0 rfl
  have xm1 := H5.out.c 1 rfl
  have xm2 := H5.out.c 2 rfl
  have xm3 := H5.out.c 3 rfl
  have xm4 := H5.out.c 4 rfl
  have zm := H5.out.2.2
  go_wp2_with fail
  have H9 := Lib.hid (Cs.newB H6.out (w.heap.size + 1 + 1) #[.int .i64 (l.length : Int)] 3 (by simp))
  have H10 := Lib.hid (H5.out.step (al _ (.cells #[.int .i64 (l.length : Int)] 3)))
  clear H5
  have H11 := Lib.hid (H4.out.step (al _ (.cells #[.int .i64 (l.length : Int)] 3)))
  clear H4
  have H12 := Lib.hid (keep2 (al _ (.cells #[.int .i64 (l.length : Int)] 3)) H6.out)
  clear H6
  refine (within_any 1 m.s _ [(l.length : Int)] _ (ints_lit _ [(l.length : Int)] #[.int .i64 (l.length : Int)] 3 rfl (by simp) 1 rfl (w.heap.size + 1 + 1) (by simp))).mono ?_
  rintro e wq13 ⟨rfl, rfl⟩
  rw [wi_one, HK1.out]
  clear xm0 xm1 xm2 xm3 xm4 zm
  have xm0 := H10.out.c 0 rfl
  have xm1 := H10.out.c 1 rfl
  have xm2 := H10.out.c 2 rfl
  have xm3 := H10.out.c 3 rfl
  have xm4 := H10.out.c 4 rfl
  have zm := H10.out.2.2
  go_wp2
  go_ret
  exact ⟨ret_bool HR.out.symm, H12.out⟩
set_option maxRecDepth 100000 in
set_option maxHeartbeats 8000000 in
theorem fit_y2 (m : Mf) (v : Value) (l : List Int) (b : Bool) (w : World) (h : IntsAt w v l) (hm : mfB m = true) (hk0 : inB 0 (m.c - 1) (m.c - 1) = true) (hk1 : inB 1 m.s (l.length : Int) = true) (hk2 : daB l = b) : Calls Try.prog 52 #[.agg #[.int .i64 m.v, .int .i64 m.c, .int .i64 m.s, .int .i64 m.r, .int .i64 m.t], .int .i64 (m.c - 1), v] w fun e w' => e = .returned (.bool (ftB m (m.c - 1) l)) ∧ Below w.heap.size w w' := by
  have HK0 := Lib.hid hk0
  have HK1 := Lib.hid hk1
  have HK2 := Lib.hid hk2
  have HR := Lib.hid (show ftB m (m.c - 1) l = b by unfold ftB; rw [if_pos rfl, hk0, hk1, hk2]; simp)
  clear hk0 hk1 hk2
  have HI := Lib.hid h
  have H0 := Lib.hid (Below.refl w.heap.size w)
  have H1 := Lib.hid (Cs.newB H0.out (w.heap.size) #[.int .i64 m.v, .int .i64 m.c, .int .i64 m.s, .int .i64 m.r, .int .i64 m.t] 24 (by simp))
  have H2 := Lib.hid (keep2 (al _ (.cells #[.int .i64 m.v, .int .i64 m.c, .int .i64 m.s, .int .i64 m.r, .int .i64 m.t] 24)) H0.out)
  clear H0
  obtain ⟨⟨-, -⟩, ⟨c1, c9⟩, ⟨s1, s9⟩, -, -⟩ := mfB_parts hm
  clear hm
  obtain ⟨p, cap, rfl, hl, -⟩ := h
  unfold maxLen at hl
  have t1 : wrap64 (m.c - 1) = m.c - 1 := IntWalk.wrap64_in _ (by omega)
  go_enter Try.func52, Try.ntmps52
  have xm0 := H1.out.c 0 rfl
  have xm1 := H1.out.c 1 rfl
  have xm2 := H1.out.c 2 rfl
  have xm3 := H1.out.c 3 rfl
  have xm4 := H1.out.c 4 rfl
  have zm := H1.out.2.2
  go_wp2_with fail
  have H4 := Lib.hid (Cs.newB H2.out (w.heap.size + 1) #[.int .i64 (m.c - 1)] 3 (by simp))
  have H5 := Lib.hid (H1.out.step (al _ (.cells #[.int .i64 (m.c - 1)] 3)))
  clear H1
  have H6 := Lib.hid (keep2 (al _ (.cells #[.int .i64 (m.c - 1)] 3)) H2.out)
  clear H2
  refine (within_any 0 (m.c - 1) _ [(m.c - 1)] _ (ints_lit _ [(m.c - 1)] #[.int .i64 (m.c - 1)] 3 rfl (by simp) 1 rfl (w.heap.size + 1) (by simp))).mono ?_
  rintro e wq7 ⟨rfl, rfl⟩
  rw [wi_one, HK0.out]
  clear xm0 xm1 xm2 xm3 xm4 zm
  have xm0 := H5.out.c 0 rfl
  have xm1 := H5.out.c 1 rfl
  have xm2 := H5.out.c 2 rfl
  have xm3 := H5.out.c 3 rfl
  have xm4 := H5.out.c 4 rfl
  have zm := H5.out.2.2
  go_wp2_with fail
  have H9 := Lib.hid (Cs.newB H6.out (w.heap.size + 1 + 1) #[.int .i64 (l.length : Int)] 3 (by simp))
  have H10 := Lib.hid (H5.out.step (al _ (.cells #[.int .i64 (l.length : Int)] 3)))
  clear H5
  have H11 := Lib.hid (H4.out.step (al _ (.cells #[.int .i64 (l.length : Int)] 3)))
  clear H4
  have H12 := Lib.hid (keep2 (al _ (.cells #[.int .i64 (l.length : Int)] 3)) H6.out)
  clear H6
  refine (within_any 1 m.s _ [(l.length : Int)] _ (ints_lit _ [(l.length : Int)] #[.int .i64 (l.length : Int)] 3 rfl (by simp) 1 rfl (w.heap.size + 1 + 1) (by simp))).mono ?_
  rintro e wq13 ⟨rfl, rfl⟩
  rw [wi_one, HK1.out]
  clear xm0 xm1 xm2 xm3 xm4 zm
  have xm0 := H10.out.c 0 rfl
  have xm1 := H10.out.c 1 rfl
  have xm2 := H10.out.c 2 rfl
  have xm3 := H10.out.c 3 rfl
  have xm4 := H10.out.c 4 rfl
  have zm := H10.out.2.2
  go_wp2_with fail
  refine (isData_any _ l _ (HI.out.step H12.out)).mono ?_
  rintro e wq14 ⟨rfl, rfl⟩
  rw [HK2.out]
  go_wp2
  go_ret
  exact ⟨ret_bool HR.out.symm, H12.out⟩
set_option maxRecDepth 100000 in
set_option maxHeartbeats 8000000 in
theorem fit_n0 (m : Mf) (i : Int) (v : Value) (l : List Int) (w : World) (h : IntsAt w v l) (hm : mfB m = true) (he : ¬ i = m.c - 1) (hk0 : inB 0 (m.c - 1) i = false) : Calls Try.prog 52 #[.agg #[.int .i64 m.v, .int .i64 m.c, .int .i64 m.s, .int .i64 m.r, .int .i64 m.t], .int .i64 i, v] w fun e w' => e = .returned (.bool (ftB m i l)) ∧ Below w.heap.size w w' := by
  have HK0 := Lib.hid hk0
  have HR := Lib.hid (show ftB m i l = false by unfold ftB; rw [if_neg he, hk0]; rfl)
  clear hk0
  have HI := Lib.hid h
  have H0 := Lib.hid (Below.refl w.heap.size w)
  have H1 := Lib.hid (Cs.newB H0.out (w.heap.size) #[.int .i64 m.v, .int .i64 m.c, .int .i64 m.s, .int .i64 m.r, .int .i64 m.t] 24 (by simp))
  have H2 := Lib.hid (keep2 (al _ (.cells #[.int .i64 m.v, .int .i64 m.c, .int .i64 m.s, .int .i64 m.r, .int .i64 m.t] 24)) H0.out)
  clear H0
  obtain ⟨⟨-, -⟩, ⟨c1, c9⟩, ⟨s1, s9⟩, -, -⟩ := mfB_parts hm
  clear hm
  obtain ⟨p, cap, rfl, hl, -⟩ := h
  unfold maxLen at hl
  have t1 : wrap64 (m.c - 1) = m.c - 1 := IntWalk.wrap64_in _ (by omega)
  have t2 : (i == m.c - 1) = false := by simpa using he
  go_enter Try.func52, Try.ntmps52
  have xm0 := H1.out.c 0 rfl
  have xm1 := H1.out.c 1 rfl
  have xm2 := H1.out.c 2 rfl
  have xm3 := H1.out.c 3 rfl
  have xm4 := H1.out.c 4 rfl
  have zm := H1.out.2.2
  go_wp2_with fail
  have H4 := Lib.hid (Cs.newB H2.out (w.heap.size + 1) #[.int .i64 i] 3 (by simp))
  have H5 := Lib.hid (H1.out.step (al _ (.cells #[.int .i64 i] 3)))
  clear H1
  have H6 := Lib.hid (keep2 (al _ (.cells #[.int .i64 i] 3)) H2.out)
  clear H2
  refine (within_any 0 (m.c - 1) _ [i] _ (ints_lit _ [i] #[.int .i64 i] 3 rfl (by simp) 1 rfl (w.heap.size + 1) (by simp))).mono ?_
  rintro e wq7 ⟨rfl, rfl⟩
  rw [wi_one, HK0.out]
  clear xm0 xm1 xm2 xm3 xm4 zm
  have xm0 := H5.out.c 0 rfl
  have xm1 := H5.out.c 1 rfl
  have xm2 := H5.out.c 2 rfl
  have xm3 := H5.out.c 3 rfl
  have xm4 := H5.out.c 4 rfl
  have zm := H5.out.2.2
  go_wp2
  go_ret
  exact ⟨ret_bool HR.out.symm, H6.out⟩
set_option maxRecDepth 100000 in
set_option maxHeartbeats 8000000 in
theorem fit_n1 (m : Mf) (i : Int) (v : Value) (l : List Int) (w : World) (h : IntsAt w v l) (hm : mfB m = true) (he : ¬ i = m.c - 1) (hk0 : inB 0 (m.c - 1) i = true) (hk1 : inB m.s m.s (l.length : Int) = false) : Calls Try.prog 52 #[.agg #[.int .i64 m.v, .int .i64 m.c, .int .i64 m.s, .int .i64 m.r, .int .i64 m.t], .int .i64 i, v] w fun e w' => e = .returned (.bool (ftB m i l)) ∧ Below w.heap.size w w' := by
  have HK0 := Lib.hid hk0
  have HK1 := Lib.hid hk1
  have HR := Lib.hid (show ftB m i l = false by unfold ftB; rw [if_neg he, hk0, hk1]; simp)
  clear hk0 hk1
  have HI := Lib.hid h
  have H0 := Lib.hid (Below.refl w.heap.size w)
  have H1 := Lib.hid (Cs.newB H0.out (w.heap.size) #[.int .i64 m.v, .int .i64 m.c, .int .i64 m.s, .int .i64 m.r, .int .i64 m.t] 24 (by simp))
  have H2 := Lib.hid (keep2 (al _ (.cells #[.int .i64 m.v, .int .i64 m.c, .int .i64 m.s, .int .i64 m.r, .int .i64 m.t] 24)) H0.out)
  clear H0
  obtain ⟨⟨-, -⟩, ⟨c1, c9⟩, ⟨s1, s9⟩, -, -⟩ := mfB_parts hm
  clear hm
  obtain ⟨p, cap, rfl, hl, -⟩ := h
  unfold maxLen at hl
  have t1 : wrap64 (m.c - 1) = m.c - 1 := IntWalk.wrap64_in _ (by omega)
  have t2 : (i == m.c - 1) = false := by simpa using he
  go_enter Try.func52, Try.ntmps52
  have xm0 := H1.out.c 0 rfl
  have xm1 := H1.out.c 1 rfl
  have xm2 := H1.out.c 2 rfl
  have xm3 := H1.out.c 3 rfl
  have xm4 := H1.out.c 4 rfl
  have zm := H1.out.2.2
  go_wp2_with fail
  have H4 := Lib.hid (Cs.newB H2.out (w.heap.size + 1) #[.int .i64 i] 3 (by simp))
  have H5 := Lib.hid (H1.out.step (al _ (.cells #[.int .i64 i] 3)))
  clear H1
  have H6 := Lib.hid (keep2 (al _ (.cells #[.int .i64 i] 3)) H2.out)
  clear H2
  refine (within_any 0 (m.c - 1) _ [i] _ (ints_lit _ [i] #[.int .i64 i] 3 rfl (by simp) 1 rfl (w.heap.size + 1) (by simp))).mono ?_
  rintro e wq7 ⟨rfl, rfl⟩
  rw [wi_one, HK0.out]
  clear xm0 xm1 xm2 xm3 xm4 zm
  have xm0 := H5.out.c 0 rfl
  have xm1 := H5.out.c 1 rfl
  have xm2 := H5.out.c 2 rfl
  have xm3 := H5.out.c 3 rfl
  have xm4 := H5.out.c 4 rfl
  have zm := H5.out.2.2
  go_wp2_with fail
  have H9 := Lib.hid (Cs.newB H6.out (w.heap.size + 1 + 1) #[.int .i64 (l.length : Int)] 3 (by simp))
  have H10 := Lib.hid (H5.out.step (al _ (.cells #[.int .i64 (l.length : Int)] 3)))
  clear H5
  have H11 := Lib.hid (H4.out.step (al _ (.cells #[.int .i64 (l.length : Int)] 3)))
  clear H4
  have H12 := Lib.hid (keep2 (al _ (.cells #[.int .i64 (l.length : Int)] 3)) H6.out)
  clear H6
  refine (within_any m.s m.s _ [(l.length : Int)] _ (ints_lit _ [(l.length : Int)] #[.int .i64 (l.length : Int)] 3 rfl (by simp) 1 rfl (w.heap.size + 1 + 1) (by simp))).mono ?_
  rintro e wq13 ⟨rfl, rfl⟩
  rw [wi_one, HK1.out]
  clear xm0 xm1 xm2 xm3 xm4 zm
  have xm0 := H10.out.c 0 rfl
  have xm1 := H10.out.c 1 rfl
  have xm2 := H10.out.c 2 rfl
  have xm3 := H10.out.c 3 rfl
  have xm4 := H10.out.c 4 rfl
  have zm := H10.out.2.2
  go_wp2
  go_ret
  exact ⟨ret_bool HR.out.symm, H12.out⟩
set_option maxRecDepth 100000 in
set_option maxHeartbeats 8000000 in
theorem fit_n2 (m : Mf) (i : Int) (v : Value) (l : List Int) (b : Bool) (w : World) (h : IntsAt w v l) (hm : mfB m = true) (he : ¬ i = m.c - 1) (hk0 : inB 0 (m.c - 1) i = true) (hk1 : inB m.s m.s (l.length : Int) = true) (hk2 : daB l = b) : Calls Try.prog 52 #[.agg #[.int .i64 m.v, .int .i64 m.c, .int .i64 m.s, .int .i64 m.r, .int .i64 m.t], .int .i64 i, v] w fun e w' => e = .returned (.bool (ftB m i l)) ∧ Below w.heap.size w w' := by
  have HK0 := Lib.hid hk0
  have HK1 := Lib.hid hk1
  have HK2 := Lib.hid hk2
  have HR := Lib.hid (show ftB m i l = b by unfold ftB; rw [if_neg he, hk0, hk1, hk2]; simp)
  clear hk0 hk1 hk2
  have HI := Lib.hid h
  have H0 := Lib.hid (Below.refl w.heap.size w)
  have H1 := Lib.hid (Cs.newB H0.out (w.heap.size) #[.int .i64 m.v, .int .i64 m.c, .int .i64 m.s, .int .i64 m.r, .int .i64 m.t] 24 (by simp))
  have H2 := Lib.hid (keep2 (al _ (.cells #[.int .i64 m.v, .int .i64 m.c, .int .i64 m.s, .int .i64 m.r, .int .i64 m.t] 24)) H0.out)
  clear H0
  obtain ⟨⟨-, -⟩, ⟨c1, c9⟩, ⟨s1, s9⟩, -, -⟩ := mfB_parts hm
  clear hm
  obtain ⟨p, cap, rfl, hl, -⟩ := h
  unfold maxLen at hl
  have t1 : wrap64 (m.c - 1) = m.c - 1 := IntWalk.wrap64_in _ (by omega)
  have t2 : (i == m.c - 1) = false := by simpa using he
  go_enter Try.func52, Try.ntmps52
  have xm0 := H1.out.c 0 rfl
  have xm1 := H1.out.c 1 rfl
  have xm2 := H1.out.c 2 rfl
  have xm3 := H1.out.c 3 rfl
  have xm4 := H1.out.c 4 rfl
  have zm := H1.out.2.2
  go_wp2_with fail
  have H4 := Lib.hid (Cs.newB H2.out (w.heap.size + 1) #[.int .i64 i] 3 (by simp))
  have H5 := Lib.hid (H1.out.step (al _ (.cells #[.int .i64 i] 3)))
  clear H1
  have H6 := Lib.hid (keep2 (al _ (.cells #[.int .i64 i] 3)) H2.out)
  clear H2
  refine (within_any 0 (m.c - 1) _ [i] _ (ints_lit _ [i] #[.int .i64 i] 3 rfl (by simp) 1 rfl (w.heap.size + 1) (by simp))).mono ?_
  rintro e wq7 ⟨rfl, rfl⟩
  rw [wi_one, HK0.out]
  clear xm0 xm1 xm2 xm3 xm4 zm
  have xm0 := H5.out.c 0 rfl
  have xm1 := H5.out.c 1 rfl
  have xm2 := H5.out.c 2 rfl
  have xm3 := H5.out.c 3 rfl
  have xm4 := H5.out.c 4 rfl
  have zm := H5.out.2.2
  go_wp2_with fail
  have H9 := Lib.hid (Cs.newB H6.out (w.heap.size + 1 + 1) #[.int .i64 (l.length : Int)] 3 (by simp))
  have H10 := Lib.hid (H5.out.step (al _ (.cells #[.int .i64 (l.length : Int)] 3)))
  clear H5
  have H11 := Lib.hid (H4.out.step (al _ (.cells #[.int .i64 (l.length : Int)] 3)))
  clear H4
  have H12 := Lib.hid (keep2 (al _ (.cells #[.int .i64 (l.length : Int)] 3)) H6.out)
  clear H6
  refine (within_any m.s m.s _ [(l.length : Int)] _ (ints_lit _ [(l.length : Int)] #[.int .i64 (l.length : Int)] 3 rfl (by simp) 1 rfl (w.heap.size + 1 + 1) (by simp))).mono ?_
  rintro e wq13 ⟨rfl, rfl⟩
  rw [wi_one, HK1.out]
  clear xm0 xm1 xm2 xm3 xm4 zm
  have xm0 := H10.out.c 0 rfl
  have xm1 := H10.out.c 1 rfl
  have xm2 := H10.out.c 2 rfl
  have xm3 := H10.out.c 3 rfl
  have xm4 := H10.out.c 4 rfl
  have zm := H10.out.2.2
  go_wp2_with fail
  refine (isData_any _ l _ (HI.out.step H12.out)).mono ?_
  rintro e wq14 ⟨rfl, rfl⟩
  rw [HK2.out]
  go_wp2
  go_ret
  exact ⟨ret_bool HR.out.symm, H12.out⟩
set_option maxRecDepth 100000 in
set_option maxHeartbeats 8000000 in
theorem fit_any (m : Mf) (i : Int) (v : Value) (l : List Int) (w : World) (h : IntsAt w v l) (hm : mfB m = true) : Calls Try.prog 52 #[.agg #[.int .i64 m.v, .int .i64 m.c, .int .i64 m.s, .int .i64 m.r, .int .i64 m.t], .int .i64 i, v] w fun e w' => e = .returned (.bool (ftB m i l)) ∧ Below w.heap.size w w' := by
  by_cases he : i = m.c - 1
  · subst he
    cases h0 : inB 0 (m.c - 1) (m.c - 1)
    · exact fit_y0 m v l w h hm h0
    · cases h1 : inB 1 m.s (l.length : Int)
      · exact fit_y1 m v l w h hm h0 h1
      · exact fit_y2 m v l _ w h hm h0 h1 rfl
  · cases h0 : inB 0 (m.c - 1) i
    · exact fit_n0 m i v l w h hm he h0
    · cases h1 : inB m.s m.s (l.length : Int)
      · exact fit_n1 m i v l w h hm he h0 h1
      · exact fit_n2 m i v l _ w h hm he h0 h1 rfl
open Go.RowKit

theorem rows_nil (w : World) : RowsAt w (.slice none 0 0) [] := ⟨none, 0, rfl, by simp, fun h => absurd rfl h⟩
/-- The type of a block's cells. -/
def tyB (w : World) (b : Nat) : Option TypeId := (w.heap[b]?).bind fun o => match o with
  | .cells _ t _ => some t
  | _ => none
theorem tyB_step {w w' : World} {b : Nat} {t : TypeId} (h : tyB w b = some t) (hb : Below w.heap.size w w') : tyB w' b = some t := by
  unfold tyB at h ⊢
  cases hq : w.heap[b]? with
  | none => rw [hq] at h; cases h
  | some o => rw [(hb.block b (Array.getElem?_eq_some_iff.1 hq).1).trans hq]; rw [hq] at h; exact h
theorem tyB_set (w : World) (a : Addr) (v : Value) (b : Nat) : tyB (w.setCell a v) b = tyB w b := by
  unfold tyB World.setCell
  simp only [Array.getElem?_modify]
  by_cases e : a.block = b
  · rw [if_pos e]
    cases hq : w.heap[b]? with
    | none => rfl
    | some o => cases o <;> rfl
  · rw [if_neg e]
/-- A row of lists of one's own: its block lies from 'n2' on, the lists' blocks below 'n1' or from 'n2' on. -/
def OwR (n1 n2 : Nat) (L : List (List Int)) (lv : Value) (w : World) : Prop :=
  ∃ a c, lv = .slice a L.length c ∧ L.length ≤ maxLen ∧ (L ≠ [] → ∃ g, a = some ⟨g, 0, none⟩ ∧ n2 ≤ g ∧ g < w.heap.size ∧ ∀ i, i < L.length → w.frozen? ⟨g, i, none⟩ = false ∧ ∃ u, w.cell? ⟨g, i, none⟩ = some u ∧ IntsAt w u (L.getD i []) ∧
    (L.getD i [] ≠ [] → ∀ b off n c, u = .slice (some ⟨b, off, none⟩) n c → (b < n1 ∨ n2 ≤ b ∧ tyB w b = some 3) ∧ b ≠ g) ∧ tyB w g = some 22)
theorem OwR.step {n1 n2 : Nat} {L : List (List Int)} {lv : Value} {w w' : World} (h : OwR n1 n2 L lv w) (hb : Below w.heap.size w w') : OwR n1 n2 L lv w' := by
  obtain ⟨a, c, e, hm, h⟩ := h
  refine ⟨a, c, e, hm, fun hl => ?_⟩
  obtain ⟨g, e1, h2, h3, h4⟩ := h hl
  refine ⟨g, e1, h2, Nat.lt_of_lt_of_le h3 hb.size, fun i hi => ?_⟩
  obtain ⟨f, u, hu, hi2, ha⟩ := h4 i hi
  exact ⟨(hb.frozen (p := ⟨g, i, none⟩) h3).trans f, u, keep1 hb hu, hi2.step hb, fun q b off n c e => ⟨(ha.1 q b off n c e).1.imp id fun h => ⟨h.1, tyB_step h.2 hb⟩, (ha.1 q b off n c e).2⟩, tyB_step ha.2 hb⟩
theorem OwR.rows {n1 n2 : Nat} {L : List (List Int)} {lv : Value} {w : World} (h : OwR n1 n2 L lv w) : RowsAt w lv L := by
  obtain ⟨a, c, e, hm, h⟩ := h
  refine ⟨a, c, e, hm, fun hl => ?_⟩
  obtain ⟨g, e1, h2, h3, h4⟩ := h hl
  refine ⟨g, 0, e1, fun i x hi => ?_⟩
  have hlt := (List.getElem?_eq_some_iff.1 hi).1
  obtain ⟨f, u, hu, hi2, ha⟩ := h4 i hlt
  rw [Nat.zero_add]
  rw [rows_get hlt] at hi
  cases hi
  exact ⟨u, hu, hi2⟩
theorem OwR.set {n1 n2 B : Nat} {L : List (List Int)} {lv : Value} {w : World} (h : OwR n1 n2 L lv w) (h1 : n1 ≤ B) (h2 : B < n2) (j : Nat) (x : Value) : OwR n1 n2 L lv (w.setCell ⟨B, j, none⟩ x) := by
  obtain ⟨a, c, e, hm, h⟩ := h
  refine ⟨a, c, e, hm, fun hl => ?_⟩
  obtain ⟨g, e1, g2, g3, g4⟩ := h hl
  refine ⟨g, e1, g2, by simpa using g3, fun i hi => ?_⟩
  obtain ⟨f, u, hu, hi2, ha⟩ := g4 i hi
  have hne : (⟨g, i, none⟩ : Addr).block ≠ B := by show g ≠ B; omega
  refine ⟨(World.frozen?_of_block (a := ⟨g, i, none⟩) (Below.heap_setCell w ⟨B, j, none⟩ x g hne)).trans f, u, (World.cell?_of_block (a := ⟨g, i, none⟩) (Below.heap_setCell w ⟨B, j, none⟩ x g hne)).trans hu, ints_away hi2 (fun hx b off n c e => by
    have h9 := (ha.1 hx b off n c e).1; rcases h9 with h9 | ⟨h9, -⟩ <;> omega) _ _, fun q b off n c e => by rw [tyB_set]; exact ha.1 q b off n c e, by rw [tyB_set]; exact ha.2⟩
theorem OwR.put {n1 n2 g k c : Nat} {L : List (List Int)} {w : World} {u : Value} {x : List Int} (h : OwR n1 n2 L (.slice (some ⟨g, 0, none⟩) L.length c) w) (hk : k < L.length) (hu : IntsAt w u x) (ha : x ≠ [] → ∀ b off n c, u = .slice (some ⟨b, off, none⟩) n c → (b < n1 ∨ n2 ≤ b ∧ tyB w b = some 3) ∧ b ≠ g) :
    OwR n1 n2 (L.set k x) (.slice (some ⟨g, 0, none⟩) L.length c) (w.setCell ⟨g, k, none⟩ u) := by
  obtain ⟨a, c', e, hm, h⟩ := h
  obtain ⟨rfl, rfl⟩ : some (⟨g, 0, none⟩ : Addr) = a ∧ c = c' := by simpa using e
  obtain ⟨g', e1, g2, g3, g4⟩ := h (by intro e; rw [e] at hk; simp at hk)
  obtain rfl : g = g' := by simpa using e1
  refine ⟨some ⟨g, 0, none⟩, c, by rw [List.length_set], by rw [List.length_set]; exact hm, fun _ => ⟨g, rfl, g2, by simpa using g3, fun i hi => ?_⟩⟩
  rw [List.length_set] at hi
  obtain ⟨f, v, hv, hi2, ha2⟩ := g4 i hi
  have hf : (w.setCell ⟨g, k, none⟩ u).frozen? ⟨g, i, none⟩ = false := by rw [World.frozen?_setCell]; exact f
  by_cases e : k = i
  · subst e
    refine ⟨hf, u, by rw [World.cell?_setCell_same _ _ _ hv], ?_, ?_, by rw [tyB_set]; exact ha2.2⟩
    · rw [List.getD_eq_getElem?_getD, List.getElem?_set_self hk]
      exact ints_away hu (fun hx b off n c e => (ha hx b off n c e).2) _ _
    · rw [List.getD_eq_getElem?_getD, List.getElem?_set_self hk]
      exact fun q b off n c e => by rw [tyB_set]; exact ha q b off n c e
  · have hg : (L.set k x).getD i [] = L.getD i [] := by rw [List.getD_eq_getElem?_getD, List.getElem?_set_ne e, ← List.getD_eq_getElem?_getD]
    rw [hg]
    exact ⟨hf, v, by rw [World.cell?_setCell_other _ _ _ _ (by intro h2; injection h2 with _ h3; exact e h3), hv], ints_away hi2 (fun hx b off n c e => (ha2.1 hx b off n c e).2) _ _, fun q b off n c e => by rw [tyB_set]; exact ha2.1 q b off n c e, by rw [tyB_set]; exact ha2.2⟩
theorem set_self {L : List (List Int)} {k : Nat} (_ : k < L.length) : L.set k (L.getD k []) = L := by
  apply List.ext_getElem?
  intro i
  by_cases e : k = i
  · subst e
    by_cases h2 : k < L.length
    · rw [List.getElem?_set_self h2, rows_get h2]
    · omega
  · rw [List.getElem?_set_ne e]
/-- The cells of a row of lists. -/
theorem rows_cells {w : World} {ad : Addr} {cap : Nat} {L : List (List Int)} (h : RowsAt w (.slice (some ad) L.length cap) L) : ∃ xs : List Value, xs.length = L.length ∧ ∀ j u, xs[j]? = some u → w.cell? (ad.add j) = some u ∧ u.oneCell' = true ∧ IntsAt w u (L.getD j []) := by
  obtain ⟨a, c, e, hm, h⟩ := h
  obtain ⟨rfl, rfl⟩ : some ad = a ∧ cap = c := by simpa using e
  by_cases hL : L = []
  · subst hL; exact ⟨[], rfl, fun j u hj => by simp at hj⟩
  · obtain ⟨b, off, e1, hx⟩ := h hL
    obtain rfl : ad = ⟨b, off, none⟩ := by simpa using e1
    refine ⟨(List.range L.length).map fun i => (w.cell? ⟨b, off + i, none⟩).getD undef, by simp, fun j u hj => ?_⟩
    have hlt : j < L.length := by have := (List.getElem?_eq_some_iff.1 hj).1; simpa using this
    obtain ⟨y, h1, h2⟩ := hx j _ (rows_get hlt)
    have hy : u = y := by
      rw [List.getElem?_map, List.getElem?_range hlt] at hj
      simp only [Option.map_some, h1, Option.getD_some, Option.some.injEq] at hj
      exact hj.symm
    subst hy
    refine ⟨by rw [Go.WideShapes.add_plain]; exact h1, ?_, h2⟩
    obtain ⟨a2, c2, e2, -⟩ := h2
    rw [e2]; rfl
theorem OwR.of_row {n1 n2 : Nat} {L : List (List Int)} {lv : Value} {xs : List Value} {w : World} (h : w.ownsRow n2 22 1 lv L.length xs) (hx : ∀ (j : Nat) (u : Value), xs[j]? = some u → IntsAt w u (L.getD j [])) (ha : ∀ (j : Nat) (u : Value), xs[j]? = some u → L.getD j [] ≠ [] → ∀ b off n c, u = .slice (some ⟨b, off, none⟩) n c → b < n1 ∧ b < n2) : OwR n1 n2 L lv w := by
  have hl : xs.length = L.length := by rw [h.1, Nat.mul_one]
  rcases h.2 with ⟨rfl, e⟩ | ⟨g, cap, cur, rfl, h1, h2, h3, h4, h5, h6⟩
  · obtain rfl : L = [] := List.length_eq_zero_iff.1 e
    exact ⟨none, 0, rfl, by simp, fun q => absurd rfl q⟩
  · refine ⟨_, cap, rfl, by omega, fun _ => ⟨g, rfl, h1, (Array.getElem?_eq_some_iff.1 h2).1, fun i hi => ?_⟩⟩
    have hi2 : i < xs.length := by omega
    have hc := h.cells (g := g) rfl i _ (List.getElem?_eq_getElem hi2)
    rw [Go.WideShapes.add_plain, Nat.zero_add] at hc
    refine ⟨by simp [World.frozen?, h2], _, hc, hx i _ (List.getElem?_eq_getElem hi2), fun hq b off n c e => ?_, by unfold tyB; rw [h2]; rfl⟩
    have := ha i _ (List.getElem?_eq_getElem hi2) hq b off n c e
    exact ⟨.inl this.1, by omega⟩
set_option maxRecDepth 100000 in
set_option maxHeartbeats 4000000 in
theorem rclone_any (v : Value) (L : List (List Int)) (w0 w : World) (hb0 : Below w0.heap.size w0 w) (h : RowsAt w0 v L) (h9 : L.length ≤ 100000) :
    Calls Try.prog 69 #[v] w fun e w' => ∃ u, e = .returned u ∧ OwR w0.heap.size w.heap.size L u w' ∧ Below w.heap.size w w' := by
  have H := Lib.hid h
  have HB0 := Lib.hid hb0
  obtain ⟨a, cap, rfl, hm, hc⟩ := h
  obtain ⟨i0, hi, hz0, hz1, hz2⟩ := info_parts infoSl
  have q25 : ∀ (w : World) (a : Option Addr) (n c n' c' : Nat), (binOp .eql 25 (.slice a n c) (.slice none n' c')).run Try.prog w = .ok (.bool a.isNone) w := fun w a n c n' c' => Lib.run_eql_slice_nil w _ _ a n c n' c' Try.underlying25
  cases a with
  | none =>
    have hl : L = [] := by
      cases L with
      | nil => rfl
      | cons x L => obtain ⟨b, off, e, -⟩ := hc (by simp); cases e
    subst hl
    clear H hc hm h9 HB0 hb0
    go_enter Try.func69, Try.ntmps69
    go_wp2
    go_ret
    exact ⟨_, rfl, ⟨none, 0, rfl, by simp, fun q => absurd rfl q⟩, Below.refl _ _⟩
  | some ad =>
    obtain ⟨xs, hxl, hxs⟩ := rows_cells H.out
    have HXS := Lib.hid hxs
    have HLW := Lib.hid (fun (j : Nat) (u : Value) (hj : xs[j]? = some u) (hq : L.getD j [] ≠ []) (b off n c : Nat) (e : u = .slice (some ⟨b, off, none⟩) n c) => ints_low (hxs j u hj).2.2 hq b off n c e)
    have HN := Lib.hid (show ∀ j u, xs[j]? = some u → (w.alloc (.cells #[] 22)).cell? (ad.add j) = some u from fun j u hj => keep1 (HB0.out.trans ((al w (.cells #[] 22)).mono HB0.out.size)) (hxs j u hj).1)
    have H1 := Lib.hid (show ∀ u ∈ xs, u.oneCell' = true from fun u hu => by
      obtain ⟨j, hj, rfl⟩ := List.getElem_of_mem hu
      exact (hxs j _ (List.getElem?_eq_getElem hj)).2.1)
    have HXL := Lib.hid hxl
    have c1 : 0 + L.length ≤ maxLen := by unfold maxLen; omega
    have c2 : (0 + L.length) * 24 ≤ 140737488355328 := by omega
    have HR := Lib.hid (show (w.alloc (.cells #[] 22)).ownsRow w.heap.size 22 1 (.slice (some ⟨w.heap.size, 0, none⟩) 0 0) 0 [] from
      ⟨rfl, .inr ⟨w.heap.size, 0, _, rfl, Nat.le_refl _, heap_alloc_new _ _, by omega, by unfold maxLen; omega, rfl, rfl⟩⟩)
    clear hc hm hxs hxl hb0
    go_enter Try.func69, Try.ntmps69
    go_wp2_with (at_builtin; refine wpList_append_own _ rfl _ _ 25 rfl w.heap.size 22 i0 _ 1 24 Try.underlying25 hi hz0 hz1 hz2 rfl (by decide) _ _ _ rfl HR.out ad L.length cap xs rfl (by rw [HXL.out, Nat.mul_one]) HN.out H1.out c1 c2 (by simp) ?_; intro v' w1 hown hgrow _; have HO := Lib.hid hown; have HG := Lib.hid hgrow; clear hown hgrow)
    have HB := Lib.hid ((al w (.cells #[] 22)).grown HG.out (by simp) (fun k e => by cases e; exact Nat.le_refl _))
    have HO2 := Lib.hid (show w1.ownsRow w.heap.size 22 1 v' L.length xs by have := HO.out; rw [Nat.zero_add, List.nil_append] at this; exact this)
    clear HO
    go_wp2
    go_ret
    refine ⟨_, rfl, OwR.of_row HO2.out (fun j u hj => ((HXS.out j u hj).2.2.step (HB0.out.trans (HB.out.mono HB0.out.size)))) (fun j u hj hq b off n c e => ?_), HB.out⟩
    have := HLW.out j u hj hq b off n c e
    exact ⟨this, Nat.lt_of_lt_of_le this HB0.out.size⟩
open Go.RowKit

/-- A region with one pivot: which facts hold until it, and behind it; 'ed p q': q comes ahead of p. -/
def NS (lit : (Nat → Value) → Act) (s : Nat) (ed : Nat → Nat → Bool) (G : Bool → Nat → Value → World → Prop) (B : Bool → World → Prop) (bf : Nat → Bool) (ac : Act) (wv : World) : Prop :=
  ∃ vs, ac = lit vs ∧ (∀ p q, ed p q = true → bf p = true → bf q = true) ∧ B (bf s) wv ∧ ∀ i, bf i = true → G (bf s) i (vs i) wv
section
variable {lit : (Nat → Value) → Act} {s : Nat} {ed : Nat → Nat → Bool} {G : Bool → Nat → Value → World → Prop} {B : Bool → World → Prop}
theorem up_mono {bf : Nat → Bool} (i : Nat) {q : Nat} (h : bf q = true) : up bf i q = true := by unfold up; rw [h]; simp
theorem up_closed {bf : Nat → Bool} {i : Nat} (k : ∀ p q, ed p q = true → bf p = true → bf q = true) (ha : ∀ q, ed i q = true → bf q = true) : ∀ p q, ed p q = true → up bf i p = true → up bf i q = true := by
  intro p q he hp
  by_cases e : p = i
  · subst e; exact up_mono _ (ha q he)
  · rw [up_ne _ _ _ e] at hp; exact up_mono _ (k p q he hp)
theorem NS.start {ac : Act} {wv : World} (vs : Nat → Value) (hac : ac = lit vs) (hb : B false wv) : NS lit s ed G B (fun _ => false) ac wv :=
  ⟨vs, hac, fun _ _ _ h => (by cases h), hb, fun i h => (by cases h)⟩
theorem NS.next {bf : Nat → Bool} {wv : World} {vs : Nat → Value} (i : Nat) (hi : s ≠ i) (ha : ∀ q, ed i q = true → bf q = true) {x : Value} {w' : World} {ac' : Act} (hac : ac' = lit (upv vs i x))
    (k : (∀ p q, ed p q = true → bf p = true → bf q = true) ∧ ∀ i, bf i = true → G (bf s) i (vs i) wv) (hb : B (bf s) w') (hs : ∀ k, bf k = true → G (bf s) k (vs k) wv → G (bf s) k (vs k) w') (hx : G (bf s) i x w') : NS lit s ed G B (up bf i) ac' w' := by
  refine ⟨upv vs i x, hac, up_closed k.1 ha, by rw [up_ne _ _ _ hi]; exact hb, fun j hu => ?_⟩
  rw [up_ne _ _ _ hi]
  by_cases e : j = i
  · subst e; rw [upv_same]; exact hx
  · rw [up_ne _ _ _ e] at hu; rw [upv_ne _ _ _ _ e]; exact hs _ hu (k.2 j hu)
theorem NS.put {bf : Nat → Bool} {vs : Nat → Value} {w' : World} {ac' : Act} (hac : ac' = lit vs) (hn : (∀ p q, ed p q = true → bf p = true → bf q = true) ∧ ∀ q, ed s q = true → bf q = true) (hb : B true w') (hs : ∀ k, k ≠ s → bf k = true → G true k (vs k) w') (hx : ∀ v, G true s v w') : NS lit s ed G B (up bf s) ac' w' := by
  refine ⟨vs, hac, up_closed hn.1 hn.2, by rw [up_same]; exact hb, fun j hu => ?_⟩
  rw [up_same]
  by_cases e : j = s
  · subst e; exact hx _
  · rw [up_ne _ _ _ e] at hu; exact hs j e hu
theorem NS.piv {bf : Nat → Bool} {vs : Nat → Value} {x : Value} {w' : World} {ac' : Act} (hac : ac' = lit (upv vs s x)) (hn : (∀ p q, ed p q = true → bf p = true → bf q = true) ∧ ∀ q, ed s q = true → bf q = true) (hb : B true w') (hs : ∀ k, k ≠ s → bf k = true → G true k (vs k) w') (hx : G true s x w') : NS lit s ed G B (up bf s) ac' w' := by
  refine ⟨upv vs s x, hac, up_closed hn.1 hn.2, by rw [up_same]; exact hb, fun j hu => ?_⟩
  rw [up_same]
  by_cases e : j = s
  · subst e; rw [upv_same]; exact hx
  · rw [up_ne _ _ _ e] at hu; rw [upv_ne _ _ _ _ e]; exact hs j e hu
end
end Go.Proofs.Yteodafhgfcbdpaa
