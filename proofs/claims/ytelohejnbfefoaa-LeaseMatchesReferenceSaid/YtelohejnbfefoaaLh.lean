/- Leases: 'Same', of the reference; 'head'. -/
import Derived.Test.YtelohejnbfefoaaLg
namespace Go.Proofs.Ytelohejnbfefoaa
open Go.RowKit

def eqV (x y : Vo) : Bool := x.f == y.f && (x.h == y.h && x.u == y.u)
theorem eqV_iff {x y : Vo} : eqV x y = true ↔ x = y := by
  unfold eqV
  obtain ⟨a, b, c⟩ := x
  obtain ⟨d, e, f⟩ := y
  simp
theorem eqV_no {x y : Vo} : eqV x y = false ↔ x ≠ y := by rw [← Bool.not_eq_true, ne_eq, eqV_iff]
/-- Whether two lists of voters are equal, by a Bool with a known truth. -/
def smB (L M : List Vo) (b : Bool) : Prop := b = true ↔ L = M
theorem list_eq_of {L M : List Vo} (hn : L.length = M.length) (h : ∀ j, j < L.length → L.getD j zV = M.getD j zV) : L = M := by
  apply List.ext_getElem hn
  intro i h1 h2
  have := h i h1
  simpa [h1, h2] using this
set_option maxRecDepth 100000 in
set_option maxHeartbeats 4000000 in
theorem same_any (v va : Value) (L M : List Vo) (b : Bool) (hb : smB L M b) (w : World) (hl : VosAt w v L) (ha : VosAt w va M) :
    Calls Try.prog 16 #[v, va] w fun e w' => e = .returned (.bool b) ∧ Below w.heap.size w w' := by
  have HL := Lib.hid hl
  have HA := Lib.hid ha
  obtain ⟨a, cap, rfl, hm, -⟩ := hl
  obtain ⟨aa, capa, rfl, hma, -⟩ := ha
  unfold maxLen at hm hma
  by_cases hn : L.length = M.length
  · have HN := Lib.hid hn
    rw [← hn]
    clear hn
    go_enter Try.func16, Try.ntmps16
    go_wp2_with fail
    go_loopw [5] (fun i wr => ∃ k n : Nat, k ≤ L.length ∧ i = .int .i64 k ∧ Hid (∀ j, j < k → L.getD j zV = M.getD j zV) ∧ wr = w.drewN n) (fun i _ => L.length - (intOf i).toNat)
    case atStart => exact ⟨0, 0, by omega, rfl, fun j hj => absurd hj (by omega), rfl⟩
    case round =>
      obtain ⟨k, n, hk, rfl, HE, rfl⟩ := hrel
      by_cases hlt : k < L.length
      · obtain ⟨a2, cap2, hva, -, hcs⟩ := HL.out.step (below_drewN' _ _ n)
        obtain ⟨rfl, rfl⟩ : a = a2 ∧ cap = cap2 := by simpa using hva
        obtain ⟨b1, o1, rfl, hcs2⟩ := hcs (by intro h; rw [h] at hlt; simp at hlt)
        obtain ⟨a3, cap3, hvb, -, hct⟩ := HA.out.step (below_drewN' _ _ n)
        obtain ⟨rfl, rfl⟩ : aa = a3 ∧ capa = cap3 := by simpa using hvb
        have hltm : k < M.length := by have := HN.out; omega
        obtain ⟨b2, o2, rfl, hct2⟩ := hct (by intro h; rw [h] at hltm; simp at hltm)
        obtain ⟨x0, x1, x2⟩ := hcs2 k _ (vo_get hlt)
        obtain ⟨y0, y1, y2⟩ := hct2 k _ (vo_get hltm)
        clear hva hvb hcs hct hcs2 hct2 hltm
        by_cases hxy : L.getD k zV = M.getD k zV
        · have HE2 := Lib.hid (show ∀ j, j < k + 1 → L.getD j zV = M.getD j zV from fun j hj => by
            by_cases e : j = k
            · subst e; exact hxy
            · exact HE.out j (by omega))
          rw [← hxy] at y0 y1 y2
          clear hxy HE
          obtain ⟨wq, hwq⟩ : ∃ wq, w.drewN n = wq := ⟨_, rfl⟩
          rw [hwq] at x0 x1 x2 y0 y1 y2 ⊢
          have HW := Lib.hid hwq
          clear hwq
          generalize L.getD k zV = x at *
          go_wp2_with fail
          go_quiet (fail)
          go_wp2
          go_roundw
          case rel => exact ⟨k + 1, _, by omega, by go_num, HE2, by rw [← HW.out]; exact World.drewN_drewN _ _ _⟩
          case measure => simp [intOf]; omega
        · have HF := Lib.hid (show b = false by
            rw [← Bool.not_eq_true]
            intro hb2
            exact hxy (by rw [hb.1 hb2]))
          have HX := Lib.hid (eqV_no.2 hxy)
          clear hxy HE hb
          obtain ⟨wq, hwq⟩ : ∃ wq, w.drewN n = wq := ⟨_, rfl⟩
          rw [hwq] at x0 x1 x2 y0 y1 y2 ⊢
          have HW := Lib.hid hwq
          clear hwq
          generalize L.getD k zV = x at *
          generalize M.getD k zV = y at *
          obtain ⟨x0f, x0h, x0u⟩ := x
          obtain ⟨y0f, y0h, y0u⟩ := y
          simp only at x0 x1 x2 y0 y1 y2
          have hw : (x0f == y0f) = false ∨ (x0f = y0f ∧ (x0h == y0h) = false) ∨ (x0f = y0f ∧ x0h = y0h ∧ (x0u == y0u) = false) := by
            by_cases e1 : x0f = y0f
            · by_cases e2 : x0h = y0h
              · by_cases e3 : x0u = y0u
                · exact absurd (by rw [e1, e2, e3]) (eqV_no.1 HX.out)
                · exact .inr (.inr ⟨e1, e2, by simpa using e3⟩)
              · exact .inr (.inl ⟨e1, by simpa using e2⟩)
            · exact .inl (by simpa using e1)
          clear HX
          rcases hw with q | ⟨rfl, q⟩ | ⟨rfl, rfl, q⟩
          all_goals
            go_wp2_with fail
            go_quiet (fail)
            go_wp2
            go_ret
            exact ⟨ret_bool HF.out.symm, by rw [← HW.out]; exact (below_drewN' _ _ _).trans (below_drewN' _ _ _)⟩
      · have HF := Lib.hid (show b = true from hb.2 (list_eq_of HN.out (fun j hj => HE.out j (by omega))))
        clear hb
        go_wp2
        go_ret
        exact ⟨ret_bool HF.out.symm, below_drewN' _ _ _⟩
  · have q1 : (L.length != M.length) = true := by simpa using hn
    have q2 : ((L.length : Int) != (M.length : Int)) = true := by simp; omega
    have HF := Lib.hid (show b = false by
      rw [← Bool.not_eq_true]
      intro hb2
      exact hn (by rw [hb.1 hb2]))
    clear hb hn
    go_enter Try.func16, Try.ntmps16
    go_wp2
    go_ret
    exact ⟨ret_bool HF.out.symm, Below.refl _ _⟩
end Go.Proofs.Ytelohejnbfefoaa
