/- Quantities in memory. -/
import Derived.Test.YtbmmmhjgidffpaaDoorN
import Derived.Test.YtbmmmhjgidffpaaDoorG
namespace Go.Proofs.YtbmmmhjgidffpaaDoor
open Go.RowKit

/-- A quantity in a block. -/
def QAt (w : World) (b : Nat) (t : Int) (s : ByteArray) : Prop := w.cell? ⟨b, 0, none⟩ = some (.int .i64 t) ∧ w.cell? ⟨b, 1, none⟩ = some (.string s)
theorem QAt.step {w w1 : World} {b : Nat} {t : Int} {s : ByteArray} (h : QAt w b t s) (hb : Below w.heap.size w w1) : QAt w1 b t s := ⟨keep1 hb h.1, keep1 hb h.2⟩
theorem QAt.lay {w : World} {b : Nat} {t : Int} {s : ByteArray} (h : QAt w b t s) : (w.cell? ⟨b, 0, none⟩ = some (.int .i64 t) ∧ w.cell? ⟨b, 1, none⟩ = some (.string s)) ∧ b < w.heap.size :=
  ⟨h, World.block_lt_of_cell? w _ h.1⟩
theorem QAt.new (w : World) (t : Int) (s : ByteArray) (T : TypeId) (n : Nat) (hn : n = w.heap.size) : QAt (w.alloc (.cells #[.int .i64 t, .string s] T)) n t s := ⟨cell_new' _ _ _ _ hn 0, cell_new' _ _ _ _ hn 1⟩
theorem QAt.alloc {w : World} {b : Nat} {t : Int} {s : ByteArray} (h : QAt w b t s) (o : Obj) : QAt (w.alloc o) b t s := h.step ((Below.refl _ _).alloc (Nat.le_refl _) _)
theorem QAt.made {w w1 : World} {t : Int} {s : ByteArray} {T : TypeId} (hb : Below (w.alloc (.cells #[.int .i64 t, .string s] T)).heap.size (w.alloc (.cells #[.int .i64 t, .string s] T)) w1) : QAt w1 w.heap.size t s :=
  ⟨(two_new hb).1.1, (two_new hb).2.1⟩
theorem below_two (w : World) (o1 o2 : Obj) : Below w.heap.size w ((w.alloc o1).alloc o2) := ((Below.refl _ _).alloc (Nat.le_refl _) _).alloc (by simp) _
end Go.Proofs.YtbmmmhjgidffpaaDoor
