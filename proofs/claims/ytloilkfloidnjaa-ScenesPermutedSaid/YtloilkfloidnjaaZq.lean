/- Plain facts for ScenesOthers: a further scene that nobody names. -/
import Derived.Test.YtloilkfloidnjaaU
namespace Go.Proofs.Ytloilkfloidnjaa
open Go.RowKit Go.WideMaps

theorem fI_app (L : List Scn) (s : Scn) (t : ByteArray) : fI (L ++ [s]) t = (fI L t).or (if sE s.name t then some L.length else none) := by
  unfold fI
  rw [List.findIdx?_append]
  congr 1
  cases h : sE s.name t <;> simp [h]
theorem fI_more {L : List Scn} {s : Scn} {t : ByteArray} (h : t ≠ s.name) : fI (L ++ [s]) t = fI L t := by
  rw [fI_app]
  have : sE s.name t = false := by
    rw [Bool.eq_false_iff]
    intro e
    exact h (sE_iff.1 e).symm
  rw [this]; simp
theorem kn_more {L : List Scn} {s : Scn} {N : List ByteArray} (h : ∀ t ∈ N, t ≠ s.name) : kn (L ++ [s]) N = kn L N := by
  unfold kn
  rw [Bool.eq_iff_iff, List.all_eq_true, List.all_eq_true]
  exact ⟨fun k t ht => by rw [← fI_more (L := L) (h t ht)]; exact k t ht, fun k t ht => by rw [fI_more (h t ht)]; exact k t ht⟩
theorem ixOf_more {L : List Scn} {s : Scn} {t : ByteArray} (h : t ≠ s.name) : ixOf (L ++ [s]) t = ixOf L t := by
  unfold ixOf; rw [fI_more h]
theorem ixs_more {L : List Scn} {s : Scn} {N : List ByteArray} (h : ∀ t ∈ N, t ≠ s.name) : ixs (L ++ [s]) N = ixs L N := by
  unfold ixs
  exact List.map_congr_left fun t ht => ixOf_more (h t ht)
theorem stN_more {L : List Scn} {s : Scn} {i : Nat} (h : i < L.length) : stN (L ++ [s]) i = stN L i := by
  unfold stN
  simp [List.getD_eq_getElem?_getD, List.getElem?_append_left h]
theorem lyr_more {L : List Scn} {s : Scn} {i : Nat} (h : i < L.length) : lyr (L ++ [s]) i = lyr L i := by
  unfold lyr
  simp [List.getD_eq_getElem?_getD, List.getElem?_append_left h]
theorem nameAt_mem {N : List ByteArray} {m : Nat} (h : m < N.length) : nameAt N m ∈ N := by
  unfold nameAt
  rw [List.getD_eq_getElem?_getD]
  simp [h]
theorem rwN_more {L : List Scn} {s : Scn} {N : List ByteArray} (hkn : kn L N = true) (h : ∀ t ∈ N, t ≠ s.name) (d a : ByteArray) : ∀ m, m ≤ N.length → rwN (L ++ [s]) N d a m = rwN L N d a m
  | 0, _ => rfl
  | m + 1, hm => by
    have ih := rwN_more hkn h d a m (by omega)
    have hx : ixOf (L ++ [s]) (nameAt N m) = ixOf L (nameAt N m) := ixOf_more (h _ (nameAt_mem (by omega)))
    have hl : ixOf L (nameAt N m) < L.length := ixs_lt hkn _ (ixs_mem (by omega))
    unfold rwN
    rw [ih, hx, stN_more hl, lyr_more hl]
    rcases rwN_range hkn d a m (by omega) with h1 | ⟨q, h1, h2⟩
    · rw [h1]; rfl
    · rw [h1, Int.toNat_natCast, lyr_more h2]
theorem rW_more {L : List Scn} {s : Scn} {N : List ByteArray} (hkn : kn L N = true) (h : ∀ t ∈ N, t ≠ s.name) (d a : ByteArray) : rW (L ++ [s]) N d a = rW L N d a := by
  unfold rW
  rw [kn_more h, hkn, rwN_more hkn h d a _ (Nat.le_refl _)]
theorem rW_lt {L : List Scn} {N : List ByteArray} (hkn : kn L N = true) {d a : ByteArray} {q : Nat} (h : rW L N d a = q) : q < L.length := by
  have hr : rW L N d a = rwN L N d a N.length := by unfold rW; rw [hkn]; rfl
  rw [hr] at h
  rcases rwN_range hkn d a N.length (Nat.le_refl _) with h1 | ⟨q', h1, h2⟩
  · omega
  · omega
theorem wval_more {L : List Scn} {s : Scn} {N : List ByteArray} (hkn : kn L N = true) (h : ∀ t ∈ N, t ≠ s.name) (r : Rf) : wval (L ++ [s]) N r = wval L N r := by
  have hk2 : kn (L ++ [s]) N = true := by rw [kn_more h]; exact hkn
  have hr := rW_more (s := s) hkn h r.1 r.2
  unfold wval
  rcases win_cases hkn r.1 r.2 with ⟨h1, h2⟩ | ⟨q, j, h1, h2, h3⟩ <;> rcases win_cases hk2 r.1 r.2 with ⟨g1, g2⟩ | ⟨q', j', g1, g2, g3⟩
  · rw [h2, g2]
  · rw [g1, h1] at hr; omega
  · rw [g1, h1] at hr; omega
  · rw [g1, h1] at hr
    have e : q' = q := by omega
    subst e
    have hl := rW_lt hkn h1
    rw [stN_more hl, h3] at g3
    cases g3
    rw [h2, g2]
    simp only
    rw [stN_more hl]
theorem ovl_more {L : List Scn} {s : Scn} {N : List ByteArray} (hkn : kn L N = true) (h : ∀ t ∈ N, t ≠ s.name) : ovl (L ++ [s]) N = ovl L N := by
  have hk2 : kn (L ++ [s]) N = true := by rw [kn_more h]; exact hkn
  have hm : remI (L ++ [s]) (ixs L N) 0 = remI L (ixs L N) 0 := by
    unfold remI
    rw [List.drop_zero]
    have hl := ixs_lt hkn
    generalize ixs L N = I at *
    induction I with
    | nil => rfl
    | cons i I ih =>
      rw [List.flatMap_cons, List.flatMap_cons, stN_more (hl i (by simp)), ih (fun j hj => hl j (by simp [hj]))]
  rw [ovl_refs hk2, ovl_refs hkn]
  unfold rfs
  rw [ixs_more h, hm]
  exact List.map_congr_left fun r _ => wval_more hkn h r
theorem kn_with {L : List Scn} {s : Scn} {N : List ByteArray} (hn : fI L s.name = none) (h : ∀ t ∈ N, t ≠ s.name) : kn L (N ++ [s.name]) = false ∧ kn (L ++ [s]) (N ++ [s.name]) = kn L N := by
  refine ⟨?_, ?_⟩
  · unfold kn
    rw [List.all_append]
    simp [hn]
  · rw [← kn_more h]
    unfold kn
    rw [List.all_append]
    have : (fI (L ++ [s]) s.name).isSome = true := by
      rw [fI_app, hn, sE_iff.2 rfl]; simp
    simp [this]
end Go.Proofs.Ytloilkfloidnjaa
