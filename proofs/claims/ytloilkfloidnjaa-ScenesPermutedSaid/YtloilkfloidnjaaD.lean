/- The contract of the program's 'find'. -/
import Derived.Test.YtloilkfloidnjaaC
import Derived.Maps.OwnSet
import Derived.Maps.OwnOps
import Derived.Maps.AppendAt
import Derived.OwnWalk
namespace Go.Proofs.Ytloilkfloidnjaa
open Go.RowKit Go.WideMaps

theorem law9 : Maps.Keyed Try.prog 9 := Maps.string_keyed Try.underlying9
theorem zero3 (w : World) : (zeroValue 3).run Try.prog w = .ok (.int .i64 0) w := by kernel_rfl
theorem info3 : (Try.prog.info? 3).map (fun i => (i.zero, i.size, i.bytes)) = some (some (.int .i64 0), 1, 8) := by kernel_rfl
theorem row_above {w : World} {base : Nat} {e : TypeId} {size : Nat} {v : Value} {n : Nat} {xs : List Value} (h : w.ownsRow base e size v n xs) {b : Nat} (hb : b < base) : some b ≠ v.ownBlock := fun e1 => by
  have := (h.lt b e1.symm).1
  omega

/-- A map of texts to indices lies in a block. -/
def MP (w : World) (b n : Nat) (f : ByteArray → Option Nat) : Prop :=
  ∃ D : DataW Unit, w.ownsMap Try.prog 9 (plainElem Try.prog 3) b n D ∧ Maps.IsMap D ∧
    ∀ s : ByteArray, Maps.has D (.string s.data.toList) = (f s).isSome ∧ D.atKey (.string s.data.toList) (.lit (.int .i64 0)) = .lit (.int .i64 (((f s).getD 0 : Nat) : Int))
theorem MP.made (w : World) : MP (w.alloc (.map #[] 0)) w.heap.size 0 (fun _ => none) :=
  ⟨.map [], World.ownsMap_made _ _ _ _, Maps.isMap_empty, fun _ => ⟨rfl, rfl⟩⟩
theorem MP.mono {w : World} {b n n' : Nat} {f : ByteArray → Option Nat} (h : MP w b n f) (hn : n ≤ n') : MP w b n' f := by
  obtain ⟨D, h1, h2, h3⟩ := h
  exact ⟨D, h1.mono hn, h2, h3⟩
theorem MP.alloc {w : World} {b n : Nat} {f : ByteArray → Option Nat} (h : MP w b n f) (o : Obj) : MP (w.alloc o) b n f := by
  obtain ⟨D, h1, h2, h3⟩ := h
  exact ⟨D, h1.alloc o, h2, h3⟩
theorem MP.kept {w w' : World} {b n : Nat} {f : ByteArray → Option Nat} {row : Option Nat} (h : MP w b n f) (hg : w.grownBy w' row) (hne : some b ≠ row) : MP w' b n f := by
  obtain ⟨D, h1, h2, h3⟩ := h
  exact ⟨D, h1.kept hg hne, h2, h3⟩
theorem MP.drewN {w : World} {b n : Nat} {f : ByteArray → Option Nat} (h : MP w b n f) (k : Nat) : MP (w.drewN k) b n f := by
  obtain ⟨D, h1, h2, h3⟩ := h
  exact ⟨D, h1, h2, h3⟩
theorem MP.congr {w : World} {b n : Nat} {f g : ByteArray → Option Nat} (h : MP w b n f) (hg : ∀ s, f s = g s) : MP w b n g := by
  obtain ⟨D, h1, h2, h3⟩ := h
  exact ⟨D, h1, h2, fun s => by rw [← hg s]; exact h3 s⟩
theorem MP.look {w : World} {b n : Nat} {f : ByteArray → Option Nat} (h : MP w b n f) {s : ByteArray} (hs : s.size ≤ maxLen) :
    (Instr.lookup 65 (.map (some b)) (.string s) true).run Try.prog w = .ok (.tuple #[.int .i64 (((f s).getD 0 : Nat) : Int), .bool (f s).isSome]) w := by
  obtain ⟨D, h1, h2, h3⟩ := h
  obtain ⟨v, ps, hrun, hv⟩ := h1.look_ok law9 Try.underlying65 (zero3 w) (plainElem_int Try.underlying3 (by decide)) (keyOf_string_mk Try.underlying9 hs)
  obtain ⟨ha, hb⟩ := h3 s
  rw [ha] at hrun
  obtain ⟨a, rfl, hc, -⟩ := plainElem_int_inv Try.underlying3 hv
  rw [hb] at hc
  simp only [Prod.mk.injEq, DataW.lit.injEq, Lit.int.injEq, true_and] at hc
  rw [hrun, hc.1]
/-- What a store makes of such a map. -/
theorem MP.put {D : DataW Unit} {f : ByteArray → Option Nat} (hm : Maps.IsMap D)
    (h3 : ∀ s : ByteArray, Maps.has D (.string s.data.toList) = (f s).isSome ∧ D.atKey (.string s.data.toList) (.lit (.int .i64 0)) = .lit (.int .i64 (((f s).getD 0 : Nat) : Int))) (s : ByteArray) (k : Nat) {w : World} {b n : Nat}
    (h : w.ownsMap Try.prog 9 (plainElem Try.prog 3) b n (D.put (.string s.data.toList) (.lit (.int .i64 (k : Int))))) : MP w b n (fun t => if sE s t then some k else f t) := by
  refine ⟨_, h, hm.put _ _, fun t => ?_⟩
  by_cases e : s = t
  · subst e
    have e1 : sE s s = true := sE_iff.2 rfl
    simp only [e1, if_true]
    have hkl : WideAt.IsKeyLit (.string s.data.toList) := by simp [WideAt.IsKeyLit]
    exact ⟨Maps.has_put_same hm hkl _, Maps.atKey_put_same hm hkl _ _⟩
  · have e1 : sE s t = false := by
      rw [Bool.eq_false_iff]; intro h; exact e (sE_iff.1 h)
    have e2 : (Lit.string t.data.toList) ≠ Lit.string s.data.toList := fun h => by
      injection h with h
      exact e (Go.WideShapes.bytes_inj h.symm)
    simp only [e1]
    rw [Maps.has_put_other e2, Maps.atKey_put_other e2]
    exact h3 t

theorem small_wf {k : Nat} (h : k < 1000) : (Lit.int .i64 (k : Int)).wf = true := by
  have h1 : IntKind.i64.min = -9223372036854775808 := by decide
  have h2 : IntKind.i64.max = 9223372036854775807 := by decide
  show (decide (IntKind.i64.min ≤ (k : Int)) && decide ((k : Int) ≤ IntKind.i64.max)) = true
  rw [h1, h2, Bool.and_eq_true, decide_eq_true_iff, decide_eq_true_iff]; omega
theorem MP.store {w : World} {b n : Nat} {f : ByteArray → Option Nat} (h : MP w b n f) {s : ByteArray} (hs : s.size ≤ maxLen) {k : Nat} (hk : k < 1000) (hn : n < 1000) :
    ∃ w1, (Instr.mapUpdate 65 (.map (some b)) (.string s) (.int .i64 (k : Int))).run Try.prog w = .ok () w1 ∧ MP w1 b (n + 1) (fun t => if sE s t then some k else f t) ∧ w.grownBy w1 (some b) := by
  obtain ⟨D, h1, h2, h3⟩ := h
  obtain ⟨w1, hr, ho, hg⟩ := h1.update law9 Try.underlying65 (by unfold maxLen; omega) (keyOf_string_mk Try.underlying9 hs) (plainElem_int Try.underlying3 (small_wf hk))
  exact ⟨w1, hr, MP.put h2 h3 s k ho, hg⟩
theorem fI_take_succ {L : List Scn} {k : Nat} (hk : k < L.length) (t : ByteArray) : fI (L.take (k + 1)) t = (fI (L.take k) t).or (if sE L[k].name t then some k else none) := by
  unfold fI
  rw [List.take_succ_eq_append_getElem hk, List.findIdx?_append]
  congr 1
  cases h : sE L[k].name t <;> simp [h]
  omega
theorem take_new {L : List Scn} {k : Nat} (hk : k < L.length) (h : (fI (L.take k) L[k].name).isSome = false) (t : ByteArray) : (if sE L[k].name t then some k else fI (L.take k) t) = fI (L.take (k + 1)) t := by
  rw [fI_take_succ hk]
  cases e : sE L[k].name t
  · simp
  · have : L[k].name = t := sE_iff.1 e
    subst this
    have hn : fI (L.take k) L[k].name = none := by simpa using h
    rw [hn]; simp
theorem take_old {L : List Scn} {k : Nat} (hk : k < L.length) (h : (fI (L.take k) L[k].name).isSome = true) (t : ByteArray) : fI (L.take k) t = fI (L.take (k + 1)) t := by
  rw [fI_take_succ hk]
  cases e : sE L[k].name t
  · simp
  · have : L[k].name = t := sE_iff.1 e
    subst this
    obtain ⟨x, hx⟩ := Option.isSome_iff_exists.1 h
    rw [hx]; simp

/-- The index that a name means. -/
def ixOf (L : List Scn) (s : ByteArray) : Nat := (fI L s).getD 0
def rowN (L : List Scn) (N : List ByteArray) : List Value := N.map fun s => .int .i64 ((ixOf L s : Nat) : Int)
/-- What 'find' gives. -/
def FindPost (L : List Scn) (N : List ByteArray) (w : World) (e : Ending) (w' : World) : Prop :=
  ∃ v, e = .returned (.tuple #[v, .bool (kn L N)]) ∧ Below w.heap.size w w' ∧ (kn L N = true → w'.ownsRow (w.heap.size + 1) 3 1 v N.length (rowN L N)) ∧ (kn L N = false → v = .slice none 0 0)

end Go.Proofs.Ytloilkfloidnjaa
