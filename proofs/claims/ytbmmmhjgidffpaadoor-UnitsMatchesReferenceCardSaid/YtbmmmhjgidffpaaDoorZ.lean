/- The listed variable as the row reads it: the table's block. -/
import Derived.Test.YtbmmmhjgidffpaaDoorCards
import Derived.Test.YtbmmmhjgidffpaaDoorTie
import Derived.Test.YtbmmmhjgidffpaaDoorA
import Derived.ProofKit
import Derived.OpenShut
import Derived.Deep.DeepHandedRow
import Derived.Lib.LaidTab
import Derived.Lib.SmallJoins
import Derived.Deep.Strs
import Derived.Deep.Slices
import Derived.ChangeSame
namespace Go.Proofs.YtbmmmhjgidffpaaDoor
open Go.RowKit Go.WideShapes

theorem own : ownKnob Tryd.prog.godebug = none := by kernel_rfl
theorem gTab : Tryd.prog.globalNamed "domicile/units.allUnits" = some 0 := by kernel_rfl
theorem gTabType : (Tryd.prog.globals[0]?).map (·.type) = some 68 := by kernel_rfl
theorem cells68 : Tryd.prog.cellsOf 68 = 33 := by kernel_rfl
theorem cells50 : Tryd.prog.cellsOf 50 = 3 := by kernel_rfl
theorem cells9 : Tryd.prog.cellsOf 9 = 1 := by kernel_rfl
theorem cells3 : Tryd.prog.cellsOf 3 = 1 := by kernel_rfl

/-- The datum of the table, element by element. -/
def eltD {H : Type} (k : Nat) : DataW H := .agg [.lit (.string (tN k).data.toList), .lit (.int .i64 (tD k)), .lit (.int .i64 (tF k))]
theorem laid_eq : (Rows.laid_domicile_units_allUnits : DataW Unit) = .agg ((List.range 11).map eltD) := by kernel_rfl
theorem piece (k : Nat) (hk : k < 11) : (tcells.toList.drop (k * 3)).take 3 = [.string (tN k), .int .i64 (tD k), .int .i64 (tF k)] := by
  match k, hk with
  | 0, _ => rfl
  | 1, _ => rfl
  | 2, _ => rfl
  | 3, _ => rfl
  | 4, _ => rfl
  | 5, _ => rfl
  | 6, _ => rfl
  | 7, _ => rfl
  | 8, _ => rfl
  | 9, _ => rfl
  | 10, _ => rfl
theorem three_of {W : World} {base : Nat} {sp : Nat → Bool} {held : Bool} {n : Nat} {cs : List Value} {k : Nat} {p : List MemPlace}
    (h : DataW.trod (fun _ => ()) Tryd.prog W base sp held n 50 cs = some (eltD k, p)) : cs = [.string (tN k), .int .i64 (tD k), .int .i64 (tF k)] := by
  obtain ⟨y0, y1, y2, m, hx, hl, h0, h1, h2⟩ := Go.Deep.trod_struct3 Tryd.underlying50 h
  rw [cells50] at hl
  match cs, hl with
  | [a, b, c], _ =>
    simp only [cells9, cells3, List.drop_zero, List.drop_succ_cons, List.take_succ_cons, List.take_zero] at h0 h1 h2
    obtain ⟨s, e0, rfl, _⟩ := DataW.trod_string Tryd.underlying9 h0
    obtain ⟨d, e1, rfl, _⟩ := DataW.trod_int Tryd.underlying3 h1
    obtain ⟨f, e2, rfl, _⟩ := DataW.trod_int Tryd.underlying3 h2
    simp only [eltD, Prod.mk.injEq, DataW.agg.injEq, List.cons.injEq, DataW.lit.injEq, Lit.string.injEq, Lit.int.injEq, true_and, and_true] at hx
    obtain ⟨⟨hs, hd, hf⟩, _⟩ := hx
    rw [bytes_inj hs, hd, hf]
    simp only [List.cons.injEq, and_true] at e0 e1 e2
    rw [e0, e1, e2]
theorem cells_of_units {W : World} {base : Nat} {sp : Nat → Bool} {held : Bool} {fuel : Nat} {cs : List Value} {p : List MemPlace}
    (h : DataW.trod (fun _ => ()) Tryd.prog W base sp held fuel 68 cs = some (.agg ((List.range 11).map eltD), p)) : cs = tcells.toList := by
  cases fuel with
  | zero => simp [DataW.trod] at h
  | succ fuel =>
    simp only [DataW.trod, Tryd.underlying68, cells50, cells68] at h
    split at h
    · rename_i hl
      obtain ⟨xs, hm, hx⟩ := Option.map_eq_some_iff.1 h
      have hxs : xs.map (·.1) = (List.range 11).map (eltD : Nat → DataW Unit) := by
        have := congrArg Prod.fst hx
        simpa using this
      have hp : ∀ k, k < 11 → (cs.drop (k * 3)).take 3 = (tcells.toList.drop (k * 3)).take 3 := by
        intro k hk
        obtain ⟨b, hb, hf⟩ := Lib.mapM_at hm k k (by simp [hk])
        have h2 : (xs.map (·.1))[k]? = some b.1 := by simp [hb]
        rw [hxs] at h2
        have h3 : b.1 = (eltD k : DataW Unit) := by simpa [hk] using h2.symm
        obtain ⟨b1, b2⟩ := b
        simp only at h3
        subst h3
        rw [piece k hk]
        exact three_of hf
      apply List.ext_getElem?
      intro i
      by_cases hi : i < 33
      · have h1 := hp (i / 3) (by omega)
        have h2 := congrArg (·[i % 3]?) h1
        have hlt : i % 3 < 3 := Nat.mod_lt _ (by omega)
        have he : i / 3 * 3 + i % 3 = i := by omega
        simpa [List.getElem?_take, List.getElem?_drop, hlt, he] using h2
      · have hlen : tcells.toList.length = 33 := rfl
        rw [List.getElem?_eq_none (by omega), List.getElem?_eq_none (by omega)]
    · cases h
theorem table {W : World} {rest : List (String × DataW Unit)} (h : laidMet Tryd.prog (("domicile/units.allUnits", Rows.laid_domicile_units_allUnits) :: rest) W) : Tab W := by
  obtain ⟨ps, ⟨g', t', cs, fuel, p, q, hg', ht', hvar, hd, _, _⟩, _⟩ := h
  obtain rfl := Option.some.inj (gTab.symm.trans hg')
  obtain rfl := Option.some.inj (gTabType.symm.trans ht')
  rw [laid_eq] at hd
  have hc := cells_of_units hd
  have hc' : cs = tcells := by
    apply Array.ext'
    exact hc
  subst hc'
  simp only [World.var?, gTab, Option.bind_some] at hvar
  split at hvar
  · rename_i cs t fr heq
    simp only [Option.some.injEq] at hvar
    subst hvar
    exact ⟨t, fr, heq⟩
  · cases hvar

section
open Go.Joins Go.ChangeShapes
variable {H : Type} {enc : TypeId × Value → H} {w : World} {base : Nat} {spare : Nat → Bool} {held : Bool}
theorem open_q {r : Reach} {b0 : Nat} {v : Value} {d : DataW H} {p : List MemPlace} (hv : Value.okWide Tryd.prog w r b0 23 v) (h : DataW.Trod enc Tryd.prog w base spare held 23 v d p) :
    ∃ (t : Int) (s : ByteArray), v = .agg #[.int .i64 t, .string s] ∧ d = .agg [.lit (.int .i64 t), .lit (.string s.data.toList)] ∧ p = [] ∧ (Lit.int .i64 t).wf = true ∧ s.size ≤ maxLen := by
  obtain ⟨v0, v1, y0, y1, n, rfl, rfl, rfl, h0, h1⟩ := open_agg2 Tryd.underlying23 (by kernel_rfl) (by kernel_rfl) hv h
  obtain ⟨t, e0, rfl, w0⟩ := DataW.trod_int Tryd.underlying3 h0
  obtain ⟨s, e1, rfl, w1⟩ := DataW.trod_string Tryd.underlying9 h1
  simp only [List.cons.injEq, and_true] at e0 e1
  subst e0 e1
  exact ⟨t, s, rfl, rfl, rfl, w0, w1⟩
theorem shut_q {t : Int} {s : ByteArray} (w0 : (Lit.int .i64 t).wf = true) (w1 : s.size ≤ maxLen) :
    DataW.Trod enc Tryd.prog w base spare held 23 (.agg #[.int .i64 t, .string s]) (.agg [.lit (.int .i64 t), .lit (.string s.data.toList)]) [] :=
  shut_agg2 (y0 := (.lit (.int .i64 t), [])) (y1 := (.lit (.string s.data.toList), [])) Tryd.underlying23 (by kernel_rfl) (by kernel_rfl) ⟨1, trod_int_mk 0 Tryd.underlying3 w0⟩ (Go.Deep.shut_string_cell Tryd.underlying9 w1)
end
end Go.Proofs.YtbmmmhjgidffpaaDoor
