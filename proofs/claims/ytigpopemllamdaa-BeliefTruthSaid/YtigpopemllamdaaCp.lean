/- Beliefs: a region that calls and makes a box, the lists being new. -/
import Derived.Test.YtigpopemllamdaaCn
namespace Go.Proofs.Ytigpopemllamdaa
open Go.RowKit

/-- A belief's two lists, which are new. -/
def RbF (N : Nat) (V : List Int) (M : List Od) (ua : Option Addr) (uc : Nat) (fa : Option Addr) (fc : Nat) (w : World) : Prop := Rb V M ua uc fa fc w ∧ (∀ g o, ua = some ⟨g, o, none⟩ → N ≤ g) ∧ ∀ g o, fa = some ⟨g, o, none⟩ → N ≤ g
theorem RbF.step {N : Nat} {V : List Int} {M : List Od} {ua fa : Option Addr} {uc fc : Nat} {w w' : World} (h : RbF N V M ua uc fa fc w) (hb : Below w.heap.size w w') : RbF N V M ua uc fa fc w' := ⟨h.1.step hb, h.2⟩
theorem RbF.kept {N : Nat} {V : List Int} {M : List Od} {ua fa : Option Addr} {uc fc k : Nat} {w w' : World} (h : RbF N V M ua uc fa fc w) (hc : Chg k w w') (hs : Sl w k) : RbF N V M ua uc fa fc w' := ⟨h.1.kept hc hs, h.2⟩
theorem RbF.le {N N' : Nat} {V : List Int} {M : List Od} {ua fa : Option Addr} {uc fc : Nat} {w : World} (h : RbF N V M ua uc fa fc w) (hn : N' ≤ N) : RbF N' V M ua uc fa fc w :=
  ⟨h.1, fun g o e => Nat.le_trans hn (h.2.1 g o e), fun g o e => Nat.le_trans hn (h.2.2 g o e)⟩
/-- The values of a region that calls: the call's two results, the belief, its new box. -/
def QtF (N : Nat) (V : List Int) (M : List Od) (E : Int) (b : Bool) (v : Value) (w : World) : Prop :=
  ∃ (ua : Option Addr) (uc : Nat) (fa : Option Addr) (fc : Nat), v = .tuple #[.agg #[.slice ua V.length uc, .slice fa M.length fc], .int .i64 E] ∧ (b = false → RbF N V M ua uc fa fc w)
theorem QtF.step {N : Nat} {V : List Int} {M : List Od} {E : Int} {b : Bool} {v : Value} {w w' : World} (h : QtF N V M E b v w) (hb : Below w.heap.size w w') : QtF N V M E b v w' := by
  obtain ⟨ua, uc, fa, fc, e, h⟩ := h
  exact ⟨ua, uc, fa, fc, e, fun q => (h q).step hb⟩
theorem QtF.put {N : Nat} {V : List Int} {M : List Od} {E : Int} {b : Bool} {v : Value} {w : World} (h : QtF N V M E b v w) (w' : World) : QtF N V M E true v w' := by
  obtain ⟨ua, uc, fa, fc, e, h⟩ := h
  exact ⟨ua, uc, fa, fc, e, fun q => by cases q⟩
def QaF (N : Nat) (V : List Int) (M : List Od) (b : Bool) (v : Value) (w : World) : Prop :=
  ∃ (ua : Option Addr) (uc : Nat) (fa : Option Addr) (fc : Nat), v = .agg #[.slice ua V.length uc, .slice fa M.length fc] ∧ (b = false → RbF N V M ua uc fa fc w)
theorem QaF.step {N : Nat} {V : List Int} {M : List Od} {b : Bool} {v : Value} {w w' : World} (h : QaF N V M b v w) (hb : Below w.heap.size w w') : QaF N V M b v w' := by
  obtain ⟨ua, uc, fa, fc, e, h⟩ := h
  exact ⟨ua, uc, fa, fc, e, fun q => (h q).step hb⟩
theorem QaF.put {N : Nat} {V : List Int} {M : List Od} {b : Bool} {v : Value} {w : World} (h : QaF N V M b v w) (w' : World) : QaF N V M true v w' := by
  obtain ⟨ua, uc, fa, fc, e, h⟩ := h
  exact ⟨ua, uc, fa, fc, e, fun q => by cases q⟩
/-- A belief's box, its lists being new. -/
def BF (N : Nat) (V : List Int) (M : List Od) (k : Nat) (w : World) : Prop :=
  ∃ (ua : Option Addr) (uc : Nat) (fa : Option Addr) (fc : Nat), BoxN w k #[.slice ua V.length uc, .slice fa M.length fc] 25 ∧ RbF N V M ua uc fa fc w
theorem BF.step {N : Nat} {V : List Int} {M : List Od} {k : Nat} {w w' : World} (h : BF N V M k w) (hb : Below w.heap.size w w') : BF N V M k w' := by
  obtain ⟨ua, uc, fa, fc, h1, h2⟩ := h
  exact ⟨ua, uc, fa, fc, h1.step hb, h2.step hb⟩
theorem BF.of_put {N : Nat} {V : List Int} {M : List Od} {k : Nat} {ua fa : Option Addr} {uc fc : Nat} {w : World} (h : BoxN w k ZB 25) (hr : RbF N V M ua uc fa fc w) : BF N V M k (putB w k (.slice ua V.length uc) (.slice fa M.length fc)) :=
  ⟨ua, uc, fa, fc, putB_box h _ _, hr.kept (putB_chg _ _ _ _) (sl_of h)⟩
def QkF (N : Nat) (V : List Int) (M : List Od) (b : Bool) (v : Value) (w : World) : Prop :=
  ∃ k : Nat, v = .pointer (some ⟨k, 0, none⟩) ∧ N ≤ k ∧ (b = false → BoxN w k ZB 25) ∧ (b = true → BF N V M k w)
theorem QkF.step {N : Nat} {V : List Int} {M : List Od} {b : Bool} {v : Value} {w w' : World} (h : QkF N V M b v w) (hb : Below w.heap.size w w') : QkF N V M b v w' := by
  obtain ⟨k, e, hk, h1, h2⟩ := h
  exact ⟨k, e, hk, fun q => (h1 q).step hb, fun q => (h2 q).step hb⟩
theorem confirmed_g {V V' : List Int} {L M' : List Od} (q : Int) {E : Int} (hE : cnE V L q = E) (hV' : rV E (cfM q L) = V') (hM' : rM E (cfM q L) = M') (va : Option Addr) (vc : Nat) (sa : Option Addr) (sc : Nat) (w : World) (h : Rb V L va vc sa sc w) (h9 : L.length ≤ 300) (h8 : V.length ≤ 300) :
    Calls Try.prog 13 #[.agg #[.slice va V.length vc, .slice sa L.length sc], .int .i64 q] w fun e w' => ∃ (ua : Option Addr) (uc : Nat) (fa : Option Addr) (fc : Nat), e = .returned (.tuple #[.agg #[.slice ua V'.length uc, .slice fa M'.length fc], .int .i64 E]) ∧ Below w.heap.size w w' ∧ RbF w.heap.size V' M' ua uc fa fc w' :=
  (confirmed_f q hE hV' hM' va vc sa sc w h h9 h8).mono fun _ _ ⟨ua, uc, fa, fc, h1, h2, h3, h4⟩ => ⟨ua, uc, fa, fc, h1, h2, h3, h4⟩
end Go.Proofs.Ytigpopemllamdaa
