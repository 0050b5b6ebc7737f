/- Delivery: 'DeliveryKnown' at any arguments. -/
import Derived.Test.YtkamkkjijjkfdaaDpb
namespace Go.Proofs.Ytkamkkjijjkfdaa
open Go.RowKit

theorem rvB_iff {f : Int} {l : List Int} {dn : Int} : rvB f l dn = true ↔ (0 ≤ f ∧ f ≤ 1000000000) ∧ vaB l = true ∧ 0 ≤ dn ∧ dn ≤ 1000001 := by
  unfold rvB
  rw [Bool.and_eq_true, Bool.and_eq_true, inr_iff, inr_iff]
theorem vaB_set {l : List Int} {k : Nat} {x : Int} (h : vaB l = true) (hx : 0 ≤ x ∧ x ≤ 15) : vaB (l.set k x) = true := by
  unfold vaB at h ⊢
  rw [Bool.and_eq_true] at h ⊢
  refine ⟨by rw [List.length_set]; exact h.1, ?_⟩
  have h2 := h.2
  rw [Bool.not_eq_true', List.any_eq_false] at h2 ⊢
  intro y hy
  rcases List.mem_or_eq_of_mem_set hy with h3 | h3
  · exact h2 y h3
  · subst h3
    unfold ba
    rw [inr_iff.2 hx]
    simp
/-- Behind an order that was executed its number is known. -/
theorem acc_knows {t : Int} {L : List Bool} {a : Int} (hw : WF t L) (h0 : 0 ≤ a ∧ a ≤ 1000000) (h : t < a ∨ (t - a < 16 ∧ L.getD (t - a).toNat false = false)) :
    a ≤ accT t L a ∧ accT t L a - a < 16 ∧ (accL t L a).getD (accT t L a - a).toNat false = true := by
  have hT : accT t L a = if t < a then a else t := by unfold accT; rw [if_neg (by omega)]
  have h1 : a ≤ accT t L a := by rw [hT]; split <;> omega
  have h2 : accT t L a - a < 16 := by
    rw [hT]
    split
    · omega
    · rcases h with h | h <;> omega
  refine ⟨h1, h2, ?_⟩
  have hg := (acc_get hw h0.1 h0.2 hT h (accT t L a - a).toNat (by omega)).1
  rw [hg, show accT t L a - ((accT t L a - a).toNat : Int) = a by omega]
  simp
theorem known_any (t f dn : Int) (s v : Value) (L : List Bool) (l : List Int) (a b c d pa pb pc pd x : Int) (w : World) (hs : BosAt w s L) (hc : ∀ a n c, s = .slice a n c → n ≤ c) (hv : IntsAt w v l) (hx0 : 0 ≤ x) (hx1 : x ≤ 65535) :
    Calls Try.prog 7 #[.agg #[.int .i64 t, s, .int .i64 f, v, .int .i64 dn], .agg #[.int .i64 a, .int .i64 b, .int .i64 c, .int .i64 d], .agg #[.int .i64 pa, .int .i64 pb, .int .i64 pc, .int .i64 pd], .int .u16 x] w fun e w' => e = .returned (.bool true) ∧ Below w.heap.size w w' := by
  have hs2 := hs
  obtain ⟨sa, sc, rfl, -⟩ := hs2
  have hv2 := hv
  obtain ⟨va, vc, rfl, -⟩ := hv2
  replace hc := hc _ _ _ rfl
  cases hsm : (decide (0 ≤ 30) && (decide (l.length ≤ 30) && decide (L.length ≤ 30)))
  · exact known_big t f dn a b c d pa pb pc pd x sa va sc vc L l w hs hc hv hsm
  by_cases hwf : WF t L
  rotate_left
  · exact known_nowin t f dn a b c d pa pb pc pd x sa va sc vc L l w hs hc hv hsm hwf
  cases hrv : rvB f l dn
  · exact known_norv t f dn a b c d pa pb pc pd x sa va sc vc L l w hs hc hv hsm hwf hrv
  by_cases hdn : 1000000 < dn
  · exact known_full t f dn a b c d pa pb pc pd x sa va sc vc L l w hs hc hv hsm hwf hrv hdn
  obtain ⟨T, A, F, V, D, ok, er, hrw⟩ := rw_total t L f l dn a b c d
  have hrw0 := hrw
  cases hrw with
  | bad h => exact known_err t f dn a b c d pa pb pc pd x _ _ _ _ _ _ _ sa va sc vc L l w hs hc hv hsm hwf hrv hdn hrw0 (by decide)
  | old h1 h2 h3 h4 h5 => exact known_err t f dn a b c d pa pb pc pd x _ _ _ _ _ _ _ sa va sc vc L l w hs hc hv hsm hwf hrv hdn hrw0 (by decide)
  | low h1 h2 h3 h4 h5 h6 => exact known_err t f dn a b c d pa pb pc pd x _ _ _ _ _ _ _ sa va sc vc L l w hs hc hv hsm hwf hrv hdn hrw0 (by decide)
  | known h1 h2 h3 h4 h5 h6 h7 => exact known_known t f dn a b c d pa pb pc pd x _ _ _ _ sa va sc vc L l w hs hc hv hsm hwf hrv hdn hrw0
  | did h1 h2 h3 h4 h5 h6 =>
    have hob := orB_iff h1
    have hrd := rvB_iff.1 h2
    have hvl : (l.set c.toNat d).length = l.length := by simp
    have hal : (accL t L a).length ≤ 100000 := by rw [accL_len a h4.1]; omega
    have hlow : b + 1 + x ≤ 1000000000 → RW t L (b + 1 + x) l dn a b c d t L (b + 1 + x) l dn false 23 := fun hf =>
      RW.low h1 (rvB_iff.2 ⟨⟨by omega, hf⟩, hrd.2⟩) h3 h4 h5 (by omega)
    have hfx : 1000000000 < b + 1 + x ∨ b + 1 + x ≤ 1000000000 := by omega
    obtain ⟨T2, A2, F2, V2, D2, ok2, er2, hrw2⟩ := rw_total (accT t L a) (accL t L a) b (l.set c.toNat d) (dn + 1) a pb pc pd
    cases hop : orB a pb pc pd
    · rcases hfx with hfx | hfx
      · exact known_did11 t f dn a b c d pa pb pc pd x _ _ _ _ _ _ _ _ _ _ sa va sc vc L l w hs hc hv hsm hwf hrv hdn hrw0 hvl hal h1 h6 ⟨hx0, hx1⟩ hrw2 hop hfx
      · exact known_did12 t f dn a b c d pa pb pc pd x _ _ _ _ _ _ _ _ _ _ sa va sc vc L l w hs hc hv hsm hwf hrv hdn hrw0 hvl hal h1 h6 ⟨hx0, hx1⟩ hrw2 hop hfx (hlow hfx)
    by_cases hpc : pc < l.length
    rotate_left
    · rcases hfx with hfx | hfx
      · exact known_did21 t f dn a b c d pa pb pc pd x _ _ _ _ _ _ _ _ _ _ sa va sc vc L l w hs hc hv hsm hwf hrv hdn hrw0 hvl hal h1 h6 ⟨hx0, hx1⟩ hrw2 hop hpc hfx
      · exact known_did22 t f dn a b c d pa pb pc pd x _ _ _ _ _ _ _ _ _ _ sa va sc vc L l w hs hc hv hsm hwf hrv hdn hrw0 hvl hal h1 h6 ⟨hx0, hx1⟩ hrw2 hop hpc hfx (hlow hfx)
    obtain ⟨k1, k2, k3⟩ := acc_knows h4 hob.1 h5
    have hkn : RW (accT t L a) (accL t L a) b (l.set c.toNat d) (dn + 1) a pb pc pd (accT t L a) (accL t L a) b (l.set c.toNat d) (dn + 1) true 0 :=
      RW.known hop (rvB_iff.2 ⟨⟨by omega, by omega⟩, vaB_set hrd.2.1 ⟨by omega, by omega⟩, by omega, by omega⟩) (by rw [hvl]; exact hpc) (wf_acc a h4) k1 k2 k3
    rcases hfx with hfx | hfx
    · exact known_did31 t f dn a b c d pa pb pc pd x _ _ _ sa va sc vc L l w hs hc hv hsm hwf hrv hdn hrw0 hvl hal h1 h6 ⟨hx0, hx1⟩ hkn hop hpc hfx
    · exact known_did32 t f dn a b c d pa pb pc pd x _ _ _ sa va sc vc L l w hs hc hv hsm hwf hrv hdn hrw0 hvl hal h1 h6 ⟨hx0, hx1⟩ hkn hop hpc hfx (hlow hfx)
end Go.Proofs.Ytkamkkjijjkfdaa
