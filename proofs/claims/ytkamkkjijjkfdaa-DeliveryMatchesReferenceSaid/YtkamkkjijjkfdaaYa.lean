/- The window: 'Accept', with the block of what it returns. -/
import Derived.Test.YtkamkkjijjkfdaaXf
namespace Go.Proofs.Ytkamkkjijjkfdaa
open Go.RowKit

theorem row_fresh {w : World} {base e s n c m k o : Nat} {a : Option Addr} {xs : List Value} (h : w.ownsRow base e s (.slice a n c) m xs) (ha : a = some ⟨k, o, none⟩) : base ≤ k := by
  subst ha
  rcases h.2 with ⟨e, -⟩ | ⟨g', cp, cur, e, h1, -⟩
  · cases e
  · obtain ⟨⟨rfl, -⟩, -⟩ : (k = g' ∧ o = 0) ∧ _ := by simpa using e
    exact h1
/-- What 'Accept' returns; the slice is new. -/
def AcF (w : World) (t : Int) (L : List Bool) (er : Int) (e : Ending) (w' : World) : Prop :=
  ∃ (aa : Option Addr) (cc : Nat), e = .returned (.tuple #[.agg #[.int .i64 t, .slice aa L.length cc], .int .i64 er]) ∧ L.length ≤ cc ∧ BosAt w' (.slice aa L.length cc) L ∧ Below w.heap.size w w' ∧ ∀ k o, aa = some ⟨k, o, none⟩ → w.heap.size ≤ k
theorem AcF.mk {w W : World} {t er : Int} {L : List Bool} {n uc : Nat} {ua : Option Addr} (hn : L.length = n) (hc : n ≤ uc) (hb : BosAt W (.slice ua n uc) L) (hB : Below w.heap.size w W) (hf : ∀ k o, ua = some ⟨k, o, none⟩ → w.heap.size ≤ k) : AcF w t L er (.returned (.tuple #[.agg #[.int .i64 t, .slice ua n uc], .int .i64 er])) W := by
  subst hn
  exact ⟨ua, uc, rfl, hc, hb, hB, hf⟩
end Go.Proofs.Ytkamkkjijjkfdaa
