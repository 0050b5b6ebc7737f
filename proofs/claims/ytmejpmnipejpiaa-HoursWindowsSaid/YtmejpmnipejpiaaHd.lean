/- Quiet hours: an array of 1440 truth values in memory; which minutes are quiet. -/
import Derived.Test.YtmejpmnipejpiaaHc
import Derived.Laws.Rows
import Derived.Deep.WholeRow
import Derived.Great.Walk
import Derived.Great.Ranges
namespace Go.Proofs.Ytmejpmnipejpiaa
open Go.RowKit

def bArr (f : Nat → Bool) : Array Value := ((List.range 1440).map fun i => Value.bool (f i)).toArray
def noB : Nat → Bool := fun _ => false
theorem bArr_size (f : Nat → Bool) : (bArr f).size = 1440 := by simp [bArr]
theorem bArr_get {f : Nat → Bool} {i : Nat} (h : i < 1440) : (bArr f)[i]? = some (.bool (f i)) := by simp [bArr, h]
theorem bArr_ext {f g : Nat → Bool} (h : ∀ i, i < 1440 → f i = g i) : bArr f = bArr g := by
  unfold bArr
  exact congrArg List.toArray (List.map_congr_left fun i hi => by rw [h i (List.mem_range.1 hi)])
theorem bArr_one (f : Nat → Bool) : (bArr f).all (·.oneCell') = true := by
  rw [Array.all_eq_true_iff_forall_mem]
  intro v hv
  unfold bArr at hv
  simp only [List.mem_toArray, List.mem_map] at hv
  obtain ⟨i, -, rfl⟩ := hv
  rfl
theorem bArr_set {f f' : Nat → Bool} {m : Nat} (hf : ∀ x, x < 1440 → f' x = (f x || decide (x = m))) : (bArr f).setIfInBounds m (.bool true) = bArr f' := by
  apply Array.ext_getElem?
  intro i
  by_cases hi : i < 1440
  · rw [bArr_get hi, hf i hi]
    by_cases e : m = i
    · subst e
      rw [Array.getElem?_setIfInBounds_self_of_lt (by rw [bArr_size]; exact hi)]
      simp
    · rw [Array.getElem?_setIfInBounds_ne e, bArr_get hi]
      simp [show ¬ i = m from fun h => e h.symm]
  · rw [Array.getElem?_eq_none (by rw [Array.size_setIfInBounds, bArr_size]; omega), Array.getElem?_eq_none (by rw [bArr_size]; omega)]
theorem info45 : (Try.prog.info? 45).map (fun i => (i.zero, i.size)) = some (some (.agg (bArr noB)), 1440) := by kernel_rfl
theorem size45 (f : Nat → Bool) : (Try.prog.info? 45).map (·.size) = some (bArr f).size := by rw [bArr_size]; exact (zero_of_info info45).2
/-- A block of truth values. -/
def BoxA (W : World) (B : Nat) (f : Nat → Bool) : Prop := W.heap[B]? = some (.cells (bArr f) 45 (0, 0))
theorem BoxA.lt {W : World} {B : Nat} {f : Nat → Bool} (h : BoxA W B f) : B < W.heap.size := (Array.getElem?_eq_some_iff.1 h).1
theorem BoxA.cell {W : World} {B : Nat} {f : Nat → Bool} (h : BoxA W B f) {j : Nat} (hj : j < 1440) : W.cell? ⟨B, j, none⟩ = some (.bool (f j)) := by
  rw [cell_of_row _ _ _ _ _ _ h, bArr_get hj]
theorem BoxA.frozen {W : World} {B : Nat} {f : Nat → Bool} (h : BoxA W B f) (j : Nat) : W.frozen? ⟨B, j, none⟩ = false := frozen_of_row _ _ _ _ _ h
theorem BoxA.new (W : World) (f : Nat → Bool) {n : Nat} (hn : n = W.heap.size) : BoxA (W.alloc (.cells (bArr f) 45)) n f := by subst hn; exact heap_alloc_new W _
theorem BoxA.step {W W' : World} {B : Nat} {f : Nat → Bool} (h : BoxA W B f) (hb : Below W.heap.size W W') : BoxA W' B f := (hb.block B h.lt).trans h
theorem BoxA.set {W : World} {B m : Nat} {f f' : Nat → Bool} (h : BoxA W B f) (hf : ∀ x, x < 1440 → f' x = (f x || decide (x = m))) : BoxA (W.setCell ⟨B, m, none⟩ (.bool true)) B f' := by
  unfold BoxA
  rw [heap_setCell_same _ _ _ _ _ _ h, bArr_set hf]
theorem BoxA.other {W : World} {B B' m : Nat} {f : Nat → Bool} {v : Value} (h : BoxA W B f) (hne : B ≠ B') : BoxA (W.setCell ⟨B', m, none⟩ v) B f := (heap_setCell_other _ _ _ _ hne).trans h
theorem BoxA.congr {W : World} {B : Nat} {f g : Nat → Bool} (h : BoxA W B f) (hf : ∀ x, x < 1440 → f x = g x) : BoxA W B g := by unfold BoxA; rw [← bArr_ext hf]; exact h
theorem below_setRow {n : Nat} {W W' : World} {B : Nat} (h : Below n W W') (hn : n ≤ B) (c : Array Value) : Below n W (W'.setRow B c) :=
  ⟨h.os, h.tape, h.output, by rw [size_setRow]; exact h.size, fun k hk => (setRow_other W' B k c (by omega)).trans (h.block k hk)⟩
section
variable {ops : Array Oper} {rest : List Oper} {o : Oper} {a : Act} {w : World} {Q : Exit → Act → World → Prop}
theorem wpList_alloc45 (hg : o.guard = none) (ho : o.op = .alloc 45) (N : Nat) (hN : w.heap.size = N) (h : wpList Try.prog ops Q rest (a.put o.dst (.pointer (some ⟨N, 0, none⟩))) (w.alloc (.cells (bArr noB) 45))) : wpList Try.prog ops Q (o :: rest) a w := by
  subst hN
  refine wpList_plain hg fun K hK => ?_
  unfold Oper.wp execOp
  simp only [ho, Sem.run_bind, Instr.alloc, (zero_of_info info45).1, newVar, newRow, run_newObj_alloc, Sem.run_pure, Result.andThen_ok]
  exact hK _ _ h
theorem wpList_load45 (hg : o.guard = none) (x : Operand) (ho : o.op = .load 45 x) (g : Nat) (hx : a.eval x = .pointer (some ⟨g, 0, none⟩)) (f : Nat → Bool) (hb : BoxA w g f) (h : wpList Try.prog ops Q rest (a.put o.dst (.agg (bArr f))) w) : wpList Try.prog ops Q (o :: rest) a w :=
  wpList_load_row hg 45 x ho g hx 45 _ _ _ hb Try.underlying45 rfl (size45 f) h
theorem wpList_store45 (hg : o.guard = none) (x y : Operand) (ho : o.op = .store 45 x y) (g : Nat) (hx : a.eval x = .pointer (some ⟨g, 0, none⟩)) (f f0 : Nat → Bool) (hy : a.eval y = .agg (bArr f)) (hb : BoxA w g f0) (h : wpList Try.prog ops Q rest (a.put o.dst undef) (w.setRow g (bArr f))) : wpList Try.prog ops Q (o :: rest) a w :=
  wpList_plain hg fun _ hK => wp_store_row 45 x y ho g _ hx hy 45 _ hb (size45 f) (by rw [bArr_size, bArr_size]) (bArr_one f) (hK _ _ h)
theorem wpList_storeN (hg : o.guard = none) (x y : Operand) (ho : o.op = .store 45 x y) (g : Nat) (hx : a.eval x = .pointer (some ⟨g, 0, none⟩)) (f f0 : Nat → Bool) (hy : a.eval y = .agg (bArr f)) (w0 : World) (hw : w = w0.alloc (.cells (bArr f0) 45)) (hgn : g = w0.heap.size) (h : wpList Try.prog ops Q rest (a.put o.dst undef) (w0.alloc (.cells (bArr f) 45))) : wpList Try.prog ops Q (o :: rest) a w := by
  subst hw hgn
  refine wpList_store45 hg x y ho _ hx f f0 hy (BoxA.new w0 f0 rfl) ?_
  rw [World.setRow_alloc_new]
  exact h
end
theorem setRow_new {W : World} {B : Nat} {f0 : Nat → Bool} (h : BoxA W B f0) (f : Nat → Bool) : BoxA (W.setRow B (bArr f)) B f := setRow_heap W B _ _ _ _ h
/-- Some minutes of a window are marked. -/
def mk1 (g : Nat → Bool) (f : Int) (n : Nat) (x : Nat) : Bool := g x || decide (((x : Int) - f) % 1440 < n)
theorem mk1_zero (g : Nat → Bool) (f : Int) (x : Nat) : mk1 g f 0 x = g x := by
  unfold mk1
  rw [decide_eq_false (by omega), Bool.or_false]
theorem mk1_succ (g : Nat → Bool) (f : Int) (n m : Nat) (hn : n < 1440) (hm : (m : Int) = (f + n) % 1440) (x : Nat) (hx : x < 1440) : mk1 g f (n + 1) x = (mk1 g f n x || decide (x = m)) := by
  unfold mk1
  rw [Bool.or_assoc]
  congr 1
  rw [Bool.eq_iff_iff]
  simp only [Bool.or_eq_true, decide_eq_true_eq]
  omega
def qF (l : List (Int × Int)) (k : Nat) (x : Nat) : Bool := Qx (l.take k) x
theorem qF_zero (l : List (Int × Int)) (x : Nat) : qF l 0 x = false := by simp [qF, Qx]
theorem qF_succ {l : List (Int × Int)} {k : Nat} {f t : Int} (h : k < l.length) (hp : l.getD k (0, 0) = (f, t)) (hok : okW (f, t) = true) (x : Nat) (hx : x < 1440) : qF l (k + 1) x = mk1 (qF l k) f ((t - f) % 1440).toNat x := by
  unfold okW at hok
  simp at hok
  have e : l[k] = (f, t) := by rw [← hp]; simp [h]
  unfold qF mk1
  rw [List.take_succ_eq_append_getElem h, e]
  unfold Qx
  rw [List.any_append]
  congr 1
  simp only [List.any_cons, List.any_nil, Bool.or_false]
  rw [cov_ok (by omega) (by omega) (by omega) (by omega) hok.2 (by omega) (by omega)]
  rw [Bool.eq_iff_iff]
  simp only [decide_eq_true_eq]
  omega
end Go.Proofs.Ytmejpmnipejpiaa
