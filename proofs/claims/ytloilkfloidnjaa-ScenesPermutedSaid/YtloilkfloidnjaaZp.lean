/- Plain facts for ScenesPermuted: other orders of the names. -/
import Derived.Test.YtloilkfloidnjaaU
namespace Go.Proofs.Ytloilkfloidnjaa
open Go.RowKit Go.WideMaps

/-- The reference's running winner has the greatest layer. -/
theorem max_inv {L : List Scn} {N : List ByteArray} (hkn : kn L N = true) {d a : ByteArray} : ∀ m, m ≤ N.length → ∀ p : Nat, rwN L N d a m = p → ∀ j, j < m → (lI (stN L (ixOf L (nameAt N j))) d a).isSome = true → lyr L (ixOf L (nameAt N j)) ≤ lyr L p
  | 0, _, _, _, _, hj, _ => absurd hj (by omega)
  | m + 1, hm, p, hp, j, hj, hs => by
    unfold rwN at hp
    split at hp
    · rename_i hc
      have hpm : ixOf L (nameAt N m) = p := by omega
      rw [Bool.and_eq_true, Bool.or_eq_true, decide_eq_true_iff, decide_eq_true_iff] at hc
      by_cases e : j = m
      · subst e; rw [hpm]; omega
      · obtain ⟨p0, h0⟩ := rwN_ge hkn hs m (by omega) (by omega)
        have h1 := max_inv hkn m (by omega) p0 h0 j (by omega) hs
        rw [h0, Int.toNat_natCast] at hc
        have h2 : lyr L p0 ≤ lyr L (ixOf L (nameAt N m)) := by rcases hc.2 with h | h <;> omega
        rw [hpm] at h2
        omega
    · rename_i hc
      by_cases e : j = m
      · subst e
        rw [hs, Bool.true_and, Bool.or_eq_true, decide_eq_true_iff, decide_eq_true_iff, hp, Int.toNat_natCast] at hc
        have h2 : ¬ lyr L p ≤ lyr L (ixOf L (nameAt N j)) := fun h => hc (.inr h)
        omega
      · exact max_inv hkn m (by omega) p hp j (by omega) hs
theorem ixs_ex {L : List Scn} {N : List ByteArray} {i : Nat} (h : i ∈ ixs L N) : ∃ k, k < N.length ∧ ixOf L (nameAt N k) = i := by
  obtain ⟨k, hk, rfl⟩ := List.getElem_of_mem h
  have hk' : k < N.length := by rw [ixs_len] at hk; exact hk
  refine ⟨k, hk', ?_⟩
  rw [← ixs_at hk']
  simp [List.getD_eq_getElem?_getD, hk]
/-- What the winner is. -/
theorem rW_max {L : List Scn} {N : List ByteArray} (hkn : kn L N = true) (d a : ByteArray) :
    (rW L N d a = -1 ∧ ∀ i ∈ ixs L N, (lI (stN L i) d a).isSome = false) ∨
    (∃ p : Nat, rW L N d a = p ∧ p ∈ ixs L N ∧ (lI (stN L p) d a).isSome = true ∧ ∀ i ∈ ixs L N, (lI (stN L i) d a).isSome = true → lyr L i ≤ lyr L p) := by
  have hr : rW L N d a = rwN L N d a N.length := by unfold rW; rw [hkn]; rfl
  rw [hr]
  rcases rwN_range hkn d a N.length (Nat.le_refl _) with h | ⟨q, h, -⟩
  · refine .inl ⟨h, fun i hi => ?_⟩
    rw [Bool.eq_false_iff]
    intro hs
    obtain ⟨k, hk, rfl⟩ := ixs_ex hi
    obtain ⟨q, hq⟩ := rwN_ge hkn hs N.length (Nat.le_refl _) hk
    omega
  · right
    obtain ⟨k, hk, h2, hs⟩ := rwN_set (L := L) (N := N) (d := d) (a := a) N.length (Nat.le_refl _) (by rw [h]; omega)
    have hkq : ixOf L (nameAt N k) = q := by omega
    refine ⟨q, h, by rw [← hkq]; exact ixs_mem hk, by rw [← hkq]; exact hs, fun i hi hsi => ?_⟩
    obtain ⟨k', hk', rfl⟩ := ixs_ex hi
    exact max_inv hkn N.length (Nat.le_refl _) q h k' hk' hsi
/-- Other orders of the same names, with different layers: the same winner. -/
theorem rW_same {L : List Scn} {N N' : List ByteArray} (hkn : kn L N = true) (hkn' : kn L N' = true) (hm : ∀ i, i ∈ ixs L N' ↔ i ∈ ixs L N) (hd : ∀ i ∈ ixs L N, ∀ k ∈ ixs L N, i ≠ k → lyr L i ≠ lyr L k) (d a : ByteArray) : rW L N' d a = rW L N d a := by
  rcases rW_max hkn d a with ⟨h1, h2⟩ | ⟨p, h1, h2, h3, h4⟩
  · rcases rW_max hkn' d a with ⟨g1, -⟩ | ⟨q, -, g2, g3, -⟩
    · rw [h1, g1]
    · rw [h2 q ((hm q).1 g2)] at g3; cases g3
  · rcases rW_max hkn' d a with ⟨-, g2⟩ | ⟨q, g1, g2, g3, g4⟩
    · rw [g2 p ((hm p).2 h2)] at h3; cases h3
    · have e1 := h4 q ((hm q).1 g2) g3
      have e2 := g4 p ((hm p).2 h2) h3
      by_cases e : q = p
      · rw [g1, h1, e]
      · exact absurd (show lyr L q = lyr L p by omega) (hd q ((hm q).1 g2) p h2 e)
theorem win_same {L : List Scn} {N N' : List ByteArray} (hkn : kn L N = true) (hkn' : kn L N' = true) {d a : ByteArray} (h : rW L N' d a = rW L N d a) : win L N' d a = win L N d a := by
  rcases win_cases hkn d a with ⟨h1, h2⟩ | ⟨q, j, h1, h2, h3⟩ <;> rcases win_cases hkn' d a with ⟨g1, g2⟩ | ⟨q', j', g1, g2, g3⟩
  · rw [h2, g2]
  · rw [g1, h1] at h; omega
  · rw [g1, h1] at h; omega
  · rw [g1, h1] at h
    have e : q' = q := by omega
    subst e
    rw [h3] at g3
    cases g3
    rw [h2, g2]
theorem remI_zero (L : List Scn) (I : List Nat) : remI L I 0 = I.flatMap (stN L) := by unfold remI; rw [List.drop_zero]
theorem foldl_old : ∀ (l : List Sett) (out : List Rf), (∀ s ∈ l, hasR out s.dev s.attr = true) → l.foldl addR out = out
  | [], _, _ => rfl
  | s :: l, out, h => by
    rw [List.foldl_cons]
    have : addR out s = out := by unfold addR; rw [h s (by simp)]; rfl
    rw [this]
    exact foldl_old l out fun x hx => h x (by simp [hx])
theorem hasR_mem {out : List Rf} {r : Rf} (h : r ∈ out) : hasR out r.1 r.2 = true := by
  unfold hasR hasN
  rw [List.take_length, List.any_eq_true]
  exact ⟨r, h, by rw [Bool.and_eq_true, sE_iff, sE_iff]; exact ⟨rfl, rfl⟩⟩
theorem rfs_twice (L : List Scn) (N : List ByteArray) : rfs L (N ++ N) = rfs L N := by
  unfold rfs
  rw [remI_zero, remI_zero]
  have e : ixs L (N ++ N) = ixs L N ++ ixs L N := by unfold ixs; rw [List.map_append]
  rw [e, List.flatMap_append, List.foldl_append]
  exact foldl_old _ _ fun s hs => hasR_mem (mem_rfs_aux _ [] hs)
theorem ixs_twice (L : List Scn) (N : List ByteArray) (i : Nat) : i ∈ ixs L (N ++ N) ↔ i ∈ ixs L N := by
  unfold ixs
  rw [List.map_append, List.mem_append, or_self]
theorem kn_twice {L : List Scn} {N : List ByteArray} (h : kn L N = true) : kn L (N ++ N) = true := by
  unfold kn at *
  rw [List.all_append, h]; rfl
theorem ovl_twice {L : List Scn} {N : List ByteArray} (hkn : kn L N = true) (hd : ∀ i ∈ ixs L N, ∀ k ∈ ixs L N, i ≠ k → lyr L i ≠ lyr L k) : ovl L (N ++ N) = ovl L N := by
  rw [ovl_refs hkn, ovl_refs (kn_twice hkn), rfs_twice]
  refine List.map_congr_left fun r _ => ?_
  unfold wval
  rw [win_same hkn (kn_twice hkn) (rW_same hkn (kn_twice hkn) (ixs_twice L N) hd r.1 r.2)]
theorem kn_rev {L : List Scn} {N : List ByteArray} (h : kn L N = true) : kn L N.reverse = true := by
  unfold kn at *
  rw [List.all_reverse]; exact h
theorem ixs_rev (L : List Scn) (N : List ByteArray) (i : Nat) : i ∈ ixs L N.reverse ↔ i ∈ ixs L N := by
  unfold ixs
  rw [List.map_reverse, List.mem_reverse]
theorem nodup_le {α : Type} [BEq α] [LawfulBEq α] : ∀ (l l' : List α), l.Nodup → (∀ x ∈ l, x ∈ l') → l.length ≤ l'.length
  | [], _, _, _ => by simp
  | x :: l, l', hn, hs => by
    have hx := hs x (by simp)
    rw [List.nodup_cons] at hn
    have h1 := nodup_le l (l'.erase x) hn.2 fun y hy => by
      have hne : y ≠ x := fun e => hn.1 (by rw [← e]; exact hy)
      exact (List.mem_erase_of_ne hne).2 (hs y (by simp [hy]))
    rw [List.length_erase_of_mem hx] at h1
    have : 0 < l'.length := List.length_pos_of_mem hx
    simp; omega
instance : BEq Rf := ⟨fun x y => sE x.1 y.1 && sE x.2 y.2⟩
instance : LawfulBEq Rf where
  eq_of_beq := fun {a b} h => by
    have h' : (sE a.1 b.1 && sE a.2 b.2) = true := h
    rw [Bool.and_eq_true, sE_iff, sE_iff] at h'
    exact Prod.ext h'.1 h'.2
  rfl := fun {a} => by
    show (sE a.1 a.1 && sE a.2 a.2) = true
    rw [sE_iff.2 rfl, sE_iff.2 rfl]; rfl
theorem rfs_rev_mem (L : List Scn) (N : List ByteArray) (r : Rf) (h : r ∈ rfs L N) : r ∈ rfs L N.reverse := by
  obtain ⟨s, hs, rfl⟩ := rfs_mem h
  refine mem_rfs_aux _ [] ?_
  rw [remI_zero, List.mem_flatMap] at hs ⊢
  obtain ⟨i, hi, hx⟩ := hs
  exact ⟨i, (ixs_rev L N i).2 hi, hx⟩
theorem ovl_rev_len {L : List Scn} {N : List ByteArray} (hkn : kn L N = true) : (ovl L N.reverse).length = (ovl L N).length := by
  have h1 : (ovl L N).length = (rfs L N).length := by rw [← ovl_rfs hkn]; simp
  have h2 : (ovl L N.reverse).length = (rfs L N.reverse).length := by rw [← ovl_rfs (kn_rev hkn)]; simp
  have h3 := nodup_le _ _ (rfs_nodup L N) (rfs_rev_mem L N)
  have h4 := nodup_le _ _ (rfs_nodup L N.reverse) (fun r hr => by have := rfs_rev_mem L N.reverse r hr; rwa [List.reverse_reverse] at this)
  omega
theorem ovl_rev_of {L : List Scn} {N : List ByteArray} (hkn : kn L N = true) (hd : ∀ i ∈ ixs L N, ∀ k ∈ ixs L N, i ≠ k → lyr L i ≠ lyr L k) {i : Nat} (hi : i < (ovl L N).length) :
    (lI (ovl L N.reverse) ((ovl L N).getD i zS).dev ((ovl L N).getD i zS).attr).isSome = true ∧ sAt (ovl L N.reverse) (lI (ovl L N.reverse) ((ovl L N).getD i zS).dev ((ovl L N).getD i zS).attr) = (ovl L N).getD i zS := by
  obtain ⟨q, j, h1, h2, h3, h4, h5⟩ := ovl_at hkn hi
  generalize (ovl L N).getD i zS = x at *
  have hr := rW_same hkn (kn_rev hkn) (ixs_rev L N) hd x.dev x.attr
  have hs := ovl_of (kn_rev hkn) x.dev x.attr
  rw [hr, h1] at hs
  have hs' : (lI (ovl L N.reverse) x.dev x.attr).isSome = true := by rw [hs]; simp
  refine ⟨hs', ?_⟩
  obtain ⟨i', hi'⟩ := Option.isSome_iff_exists.1 hs'
  obtain ⟨hl, hdv, hat⟩ := lI_some hi'
  obtain ⟨q', j', g1, -, -, g4, g5⟩ := ovl_at (kn_rev hkn) hl
  rw [hdv, hat] at g1 g4
  rw [hr, h1] at g1
  have e : q' = q := by omega
  subst e
  rw [h4] at g4
  cases g4
  rw [hi']
  show (ovl L N.reverse).getD i' zS = x
  rw [← g5, h5]
end Go.Proofs.Ytloilkfloidnjaa
