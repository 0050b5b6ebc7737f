/- The map of winners: what it says, and the operations on it. -/
import Derived.Test.YtloilkfloidnjaaE
import Derived.DeepKeys4
import Derived.MapViews
namespace Go.Proofs.Ytloilkfloidnjaa
open Go.RowKit Go.WideMaps Go.ChangeShapes

theorem laidOut : laidOutB Try.prog = true := by kernel_rfl
theorem row25 : (25 : TypeId) < Try.prog.types.size := of_decide_eq_true (by kernel_rfl)
theorem wide25 : (match Try.prog.underlying 25 with | some (.array _ _) | some (.struct _) => true | _ => false) = true := by rw [Try.underlying25]
theorem deep25 : Try.prog.keyTypeAt (Try.prog.types.size + 1) 25 = true := by kernel_rfl
theorem law25 : Maps.Keyed Try.prog 25 := Maps.Keyed.of_law (deep_law_laid laidOut (m := 2) (by omega) row25 (by kernel_rfl) wide25)
theorem zero61 (w : World) : (zeroValue 61).run Try.prog w = .ok (.agg #[.int .i64 0, .int .i64 0]) w := by kernel_rfl
/-- A reference as a value, and as a map's key. -/
def rV (d a : ByteArray) : Value := .agg #[.string d, .string a]
def rK (d a : ByteArray) : Lit := (DataW.agg [.lit (.string d.data.toList), .lit (.string a.data.toList)] : DataW Unit).asKey
theorem key_ok {d a : ByteArray} (hd : d.size ≤ maxLen) (ha : a.size ≤ maxLen) : keyOf Try.prog 25 (rV d a) = some (rK d a) := by
  have ht : DataW.Trod (H := Unit) (fun _ => ()) Try.prog default 0 (fun _ => false) true 25 (rV d a) (.agg [.lit (.string d.data.toList), .lit (.string a.data.toList)]) [] := by
    refine ⟨2, ?_⟩
    have h9 : ∀ s : ByteArray, s.size ≤ maxLen → DataW.trod (H := Unit) (fun _ => ()) Try.prog default 0 (fun _ => false) true 1 9 [.string s] = some (.lit (.string s.data.toList), []) := fun s hs => by simp [DataW.trod, Try.underlying9, hs]
    exact trod_struct2_mk (n := 1) (cs := [.string d, .string a]) Try.underlying25 cells25.symm (by simp only [cells9, List.drop_zero, List.take_succ_cons, List.take_zero]; exact h9 d hd) (by simp only [cells9, List.drop_succ_cons, List.drop_zero, List.take_succ_cons, List.take_zero]; exact h9 a ha)
  exact (keyOf_asKey deep25 wide25 (by simp [Value.formed, rV, Try.underlying25, cells25]) ht).1
theorem rK_inj {d a d' a' : ByteArray} (hd : d.size ≤ maxLen) (ha : a.size ≤ maxLen) (hd' : d'.size ≤ maxLen) (ha' : a'.size ≤ maxLen) (h : rK d a = rK d' a') : d = d' ∧ a = a' := by
  have := law25.inj (key_ok hd ha) (by rw [h]; exact key_ok hd' ha')
  simpa [rV] using this
/-- A winner's reading. -/
def wD (p : Nat × Nat) : DataW Unit := .agg [.lit (.int .i64 (p.1 : Int)), .lit (.int .i64 (p.2 : Int))]
def wV (p : Nat × Nat) : Value := .agg #[.int .i64 (p.1 : Int), .int .i64 (p.2 : Int)]
def wR : Value → Option (DataW Unit × List MemPlace)
  | .agg xs => match xs.toList with
    | [.int .i64 a, .int .i64 b] => some (.agg [.lit (.int .i64 a), .lit (.int .i64 b)], [])
    | _ => none
  | _ => none
theorem wR_mk (p : Nat × Nat) : wR (wV p) = some (wD p, []) := rfl
theorem wR_inv {v : Value} {p : Nat × Nat} {ps : List MemPlace} (h : wR v = some (wD p, ps)) : v = wV p := by
  unfold wR at h
  split at h
  · split at h
    · rename_i xs a b hx
      simp only [wD, Option.some.injEq, Prod.mk.injEq, DataW.agg.injEq, List.cons.injEq, DataW.lit.injEq, Lit.int.injEq, true_and, and_true] at h
      obtain ⟨⟨rfl, rfl⟩, -⟩ := h
      unfold wV
      congr 1
      exact Array.toList_inj.1 hx
    · cases h
  · cases h
abbrev WF := ByteArray → ByteArray → Option (Nat × Nat)
/-- A map of references to winners lies in a block. -/
def MW (w : World) (b n : Nat) (f : WF) : Prop :=
  ∃ D : DataW Unit, w.ownsMap Try.prog 25 wR b n D ∧ Maps.IsMap D ∧
    ∀ d a : ByteArray, d.size ≤ maxLen → a.size ≤ maxLen → Maps.has D (rK d a) = (f d a).isSome ∧ D.atKey (rK d a) (wD (0, 0)) = wD ((f d a).getD (0, 0))
theorem MW.made (w : World) : MW (w.alloc (.map #[] 0)) w.heap.size 0 (fun _ _ => none) :=
  ⟨.map [], World.ownsMap_made _ _ _ _, Maps.isMap_empty, fun _ _ _ _ => ⟨rfl, rfl⟩⟩
theorem MW.mono {w : World} {b n n' : Nat} {f : WF} (h : MW w b n f) (hn : n ≤ n') : MW w b n' f := by
  obtain ⟨D, h1, h2, h3⟩ := h
  exact ⟨D, h1.mono hn, h2, h3⟩
theorem MW.alloc {w : World} {b n : Nat} {f : WF} (h : MW w b n f) (o : Obj) : MW (w.alloc o) b n f := by
  obtain ⟨D, h1, h2, h3⟩ := h
  exact ⟨D, h1.alloc o, h2, h3⟩
theorem MW.kept {w w' : World} {b n : Nat} {f : WF} {row : Option Nat} (h : MW w b n f) (hg : w.grownBy w' row) (hne : some b ≠ row) : MW w' b n f := by
  obtain ⟨D, h1, h2, h3⟩ := h
  exact ⟨D, h1.kept hg hne, h2, h3⟩
theorem MW.drewN {w : World} {b n : Nat} {f : WF} (h : MW w b n f) (k : Nat) : MW (w.drewN k) b n f := by
  obtain ⟨D, h1, h2, h3⟩ := h
  exact ⟨D, h1, h2, h3⟩
theorem MW.look {w : World} {b n : Nat} {f : WF} (h : MW w b n f) {d a : ByteArray} (hd : d.size ≤ maxLen) (ha : a.size ≤ maxLen) :
    (Instr.lookup 63 (.map (some b)) (rV d a) true).run Try.prog w = .ok (.tuple #[wV ((f d a).getD (0, 0)), .bool (f d a).isSome]) w := by
  obtain ⟨D, h1, h2, h3⟩ := h
  obtain ⟨v, ps, hrun, hv⟩ := h1.look_ok law25 Try.underlying63 (zero61 w) (wR_mk (0, 0)) (key_ok hd ha)
  obtain ⟨hx, hb⟩ := h3 d a hd ha
  rw [hx] at hrun
  rw [hb] at hv
  rw [hrun, wR_inv hv]
def upd (f : WF) (d a : ByteArray) (p : Nat × Nat) : WF := fun d' a' => if sE d d' && sE a a' then some p else f d' a'
def del (f : WF) (d a : ByteArray) : WF := fun d' a' => if sE d d' && sE a a' then none else f d' a'
theorem MW.store {w : World} {b n : Nat} {f : WF} (h : MW w b n f) {d a : ByteArray} (hd : d.size ≤ maxLen) (ha : a.size ≤ maxLen) (p : Nat × Nat) (hn : n < 100000) :
    ∃ w1, (Instr.mapUpdate 63 (.map (some b)) (rV d a) (wV p)).run Try.prog w = .ok () w1 ∧ MW w1 b (n + 1) (upd f d a p) ∧ w.grownBy w1 (some b) := by
  obtain ⟨D, h1, h2, h3⟩ := h
  obtain ⟨w1, hr, ho, hg⟩ := h1.update law25 Try.underlying63 (by unfold maxLen; omega) (key_ok hd ha) (wR_mk p)
  refine ⟨w1, hr, ⟨_, ho, h2.put _ _, fun d' a' hd' ha' => ?_⟩, hg⟩
  have hkl : WideAt.IsKeyLit (rK d a) := law25.key (key_ok hd ha)
  by_cases e : d = d' ∧ a = a'
  · obtain ⟨rfl, rfl⟩ := e
    have e1 : (sE d d && sE a a) = true := by rw [sE_iff.2 rfl, sE_iff.2 rfl]; rfl
    simp only [upd, e1, if_true]
    exact ⟨Maps.has_put_same h2 hkl _, Maps.atKey_put_same h2 hkl _ _⟩
  · have e1 : (sE d d' && sE a a') = false := by
      rw [Bool.eq_false_iff]; intro h; rw [Bool.and_eq_true] at h; exact e ⟨sE_iff.1 h.1, sE_iff.1 h.2⟩
    have e2 : rK d' a' ≠ rK d a := fun h => e ((rK_inj hd' ha' hd ha h).imp Eq.symm Eq.symm)
    simp only [upd, e1]
    rw [Maps.has_put_other e2, Maps.atKey_put_other e2]
    exact h3 d' a' hd' ha'
theorem MW.drop {w : World} {b n : Nat} {f : WF} (h : MW w b n f) {d a : ByteArray} (hd : d.size ≤ maxLen) (ha : a.size ≤ maxLen) (ty : TypeId) :
    ∃ w1, (Builtin.delete_ #[63, 25] ty #[.map (some b), rV d a]).run Try.prog w = .ok (.tuple #[]) w1 ∧ MW w1 b n (del f d a) ∧ w.grownBy w1 (some b) := by
  obtain ⟨D, h1, h2, h3⟩ := h
  obtain ⟨w1, hr, ho, hg⟩ := h1.drop law25 Try.underlying63 (key_ok hd ha) ty
  refine ⟨w1, hr, ⟨_, ho, h2.del _, fun d' a' hd' ha' => ?_⟩, hg.grown⟩
  by_cases e : d = d' ∧ a = a'
  · obtain ⟨rfl, rfl⟩ := e
    have e1 : (sE d d && sE a a) = true := by rw [sE_iff.2 rfl, sE_iff.2 rfl]; rfl
    simp only [del, e1, if_true]
    exact ⟨Maps.has_del_same, Maps.atKey_del_same _⟩
  · have e1 : (sE d d' && sE a a') = false := by
      rw [Bool.eq_false_iff]; intro h; rw [Bool.and_eq_true] at h; exact e ⟨sE_iff.1 h.1, sE_iff.1 h.2⟩
    have e2 : rK d' a' ≠ rK d a := fun h => e ((rK_inj hd' ha' hd ha h).imp Eq.symm Eq.symm)
    simp only [del, e1]
    rw [Maps.has_del_other e2, Maps.atKey_del_other e2]
    exact h3 d' a' hd' ha'

/-- Indices lie behind a slice. -/
def NatsAt (w : World) (v : Value) (l : List Nat) : Prop :=
  ∃ a cap, v = .slice a l.length cap ∧ (l ≠ [] → ∃ b off, a = some ⟨b, off, none⟩ ∧ ∀ (i x : Nat), l[i]? = some x → w.cell? ⟨b, off + i, none⟩ = some (.int .i64 (x : Int)))
theorem NatsAt.step {w w1 : World} {v : Value} {l : List Nat} (h : NatsAt w v l) (hb : Below w.heap.size w w1) : NatsAt w1 v l := by
  obtain ⟨a, cap, hv, hc⟩ := h
  refine ⟨a, cap, hv, fun hl => ?_⟩
  obtain ⟨b, off, ha, hx⟩ := hc hl
  exact ⟨b, off, ha, fun i x h => keep1 hb (hx i x h)⟩
theorem nats_of_row {w : World} {base : Nat} {v : Value} {l : List Nat} (h : w.ownsRow base 3 1 v l.length (l.map fun (x : Nat) => .int .i64 (x : Int))) : NatsAt w v l := by
  have hc := fun g (hg : v.ownBlock = some g) => h.cells hg
  rcases h.2 with ⟨rfl, h0⟩ | ⟨g, cap, cur, rfl, -⟩
  · have : l = [] := List.length_eq_zero_iff.1 h0
    subst this
    exact ⟨none, 0, rfl, fun h => absurd rfl h⟩
  · refine ⟨some ⟨g, 0, none⟩, cap, rfl, fun _ => ⟨g, 0, rfl, fun i x hi => ?_⟩⟩
    have := hc g rfl i (.int .i64 (x : Int)) (by rw [List.getElem?_map, hi]; rfl)
    rw [Go.WideShapes.add_plain] at this
    exact this

/-! ### The winners, as lists -/
def zN : Scn := ⟨⟨#[]⟩, 0, []⟩
def lyr (L : List Scn) (i : Nat) : Int := (L.getD i zN).layer
def stN (L : List Scn) (i : Nat) : List Sett := (L.getD i zN).sets
/-- Whether a setting of a scene beats the winner. -/
def beats (L : List Scn) (i : Nat) (o : Option (Nat × Nat)) : Bool := match o with
  | none => true
  | some p => decide (lyr L p.1 ≤ lyr L i)
def stepW (L : List Scn) (i k : Nat) (s : Sett) (f : WF) : WF := if beats L i (f s.dev s.attr) then upd f s.dev s.attr (i, k) else f
def inW (L : List Scn) (i : Nat) (f : WF) : Nat → WF
  | 0 => f
  | k + 1 => stepW L i k ((stN L i).getD k zS) (inW L i f k)
def outW (L : List Scn) (I : List Nat) : Nat → WF
  | 0 => fun _ _ => none
  | m + 1 => inW L (I.getD m 0) (outW L I m) (stN L (I.getD m 0)).length
/-- The winners are settings of scenes. -/
def WOk (L : List Scn) (f : WF) : Prop := ∀ d a p, f d a = some p → p.1 < L.length ∧ p.2 < (stN L p.1).length
theorem WOk.step {L : List Scn} {f : WF} (h : WOk L f) {i k : Nat} (hi : i < L.length) (hk : k < (stN L i).length) (s : Sett) : WOk L (stepW L i k s f) := by
  unfold stepW
  split
  · intro d a p hp
    unfold upd at hp
    split at hp
    · simp only [Option.some.injEq] at hp
      subst hp
      exact ⟨hi, hk⟩
    · exact h d a p hp
  · exact h
end Go.Proofs.Ytloilkfloidnjaa
