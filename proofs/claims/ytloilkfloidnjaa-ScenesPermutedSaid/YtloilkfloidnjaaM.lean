/- Plain facts on winners and overlays. -/
import Derived.Test.YtloilkfloidnjaaL
namespace Go.Proofs.Ytloilkfloidnjaa
open Go.RowKit Go.WideMaps

theorem inW_eq (L : List Scn) (i : Nat) (f : WF) (d a : ByteArray) : ∀ k, inW L i f k d a = match lN (stN L i) d a k with | none => f d a | some j => if beats L i (f d a) then some (i, j) else f d a
  | 0 => rfl
  | k + 1 => by
    have ih := inW_eq L i f d a k
    show stepW L i k ((stN L i).getD k zS) (inW L i f k) d a = _
    unfold lN
    generalize (stN L i).getD k zS = s
    unfold stepW
    cases hs : sR s d a
    · have hu : ∀ p, upd (inW L i f k) s.dev s.attr p d a = inW L i f k d a := fun p => by
        unfold upd
        have : (sE s.dev d && sE s.attr a) = false := hs
        rw [this]; rfl
      simp only [Bool.false_eq_true, if_false]
      split
      · rw [hu]; exact ih
      · exact ih
    · simp only [if_true]
      have hs' : (sE s.dev d && sE s.attr a) = true := hs
      rw [Bool.and_eq_true, sE_iff, sE_iff] at hs'
      obtain ⟨hd, ha⟩ := hs'
      have hu : ∀ p, upd (inW L i f k) s.dev s.attr p d a = some p := fun p => by
        unfold upd
        have : (sE s.dev d && sE s.attr a) = true := hs
        rw [this]; rfl
      have hbe : beats L i (inW L i f k s.dev s.attr) = beats L i (f d a) := by
        rw [hd, ha, ih]
        cases lN (stN L i) d a k with
        | none => rfl
        | some j =>
          simp only
          split
          · rename_i hb
            rw [hb]
            unfold beats
            simp
          · rfl
      rw [hbe]
      split
      · rename_i hb; rw [hu]
      · rename_i hb
        rw [ih]
        cases lN (stN L i) d a k with
        | none => rfl
        | some j => simp only; rw [if_neg hb]
theorem outW_eq {L : List Scn} {N : List ByteArray} (d a : ByteArray) : ∀ m, m ≤ N.length →
    (rwN L N d a m = -1 ∧ outW L (ixs L N) m d a = none) ∨ (∃ q j : Nat, rwN L N d a m = q ∧ outW L (ixs L N) m d a = some (q, j) ∧ lI (stN L q) d a = some j)
  | 0, _ => .inl ⟨rfl, rfl⟩
  | m + 1, hm => by
    have ih := outW_eq (L := L) (N := N) d a m (by omega)
    have hix := ixs_at (L := L) (N := N) (m := m) (by omega)
    have ho : outW L (ixs L N) (m + 1) d a = match lI (stN L (ixOf L (nameAt N m))) d a with | none => outW L (ixs L N) m d a | some j => if beats L (ixOf L (nameAt N m)) (outW L (ixs L N) m d a) then some (ixOf L (nameAt N m), j) else outW L (ixs L N) m d a := by
      show inW L ((ixs L N).getD m 0) (outW L (ixs L N) m) (stN L ((ixs L N).getD m 0)).length d a = _
      rw [inW_eq, hix]
      rfl
    rw [ho]
    show (rwN L N d a (m + 1) = -1 ∧ _) ∨ _
    unfold rwN
    cases hl : lI (stN L (ixOf L (nameAt N m))) d a with
    | none =>
      simp only [Option.isSome_none, Bool.false_and, Bool.false_eq_true, if_false]
      exact ih
    | some j =>
      simp only [Option.isSome_some, Bool.true_and]
      rcases ih with ⟨h1, h2⟩ | ⟨q, j', h1, h2, h3⟩
      · rw [h1, h2]
        right
        exact ⟨_, j, rfl, rfl, hl⟩
      · rw [h1, h2]
        have e1 : decide ((q : Int) < 0) = false := by rw [decide_eq_false_iff_not]; omega
        have e2 : beats L (ixOf L (nameAt N m)) (some (q, j')) = decide (lyr L q ≤ lyr L (ixOf L (nameAt N m))) := rfl
        rw [e1, e2, Int.toNat_natCast, Bool.false_or]
        right
        split
        · exact ⟨_, j, rfl, rfl, hl⟩
        · exact ⟨q, j', rfl, rfl, h3⟩
/-- The winner, by the program and by the reference. -/
theorem win_cases {L : List Scn} {N : List ByteArray} (hkn : kn L N = true) (d a : ByteArray) :
    (rW L N d a = -1 ∧ win L N d a = none) ∨ (∃ q j : Nat, rW L N d a = q ∧ win L N d a = some (q, j) ∧ lI (stN L q) d a = some j) := by
  have h := outW_eq (L := L) (N := N) d a N.length (Nat.le_refl _)
  unfold rW win
  rw [hkn, ixs_len]
  exact h
theorem wI_eq (L : List Scn) (N : List ByteArray) (d a : ByteArray) : wI L N d a = rW L N d a := by
  cases hkn : kn L N
  · unfold wI rW; rw [hkn]; rfl
  · unfold wI
    rw [hkn]
    rcases win_cases hkn d a with ⟨h1, h2⟩ | ⟨q, j, h1, h2, h3⟩
    · rw [h1, h2]; rfl
    · rw [h1, h2]; rfl
theorem lN_isSome {l : List Sett} {d a : ByteArray} {k : Nat} (hs : sR (l.getD k zS) d a = true) : ∀ n, k < n → (lN l d a n).isSome = true
  | 0, h => absurd h (by omega)
  | n + 1, h => by
    unfold lN
    by_cases e : k = n
    · subst e; rw [hs]; rfl
    · split
      · rfl
      · exact lN_isSome hs n (by omega)
theorem lI_mem {l : List Sett} {s : Sett} (h : s ∈ l) : (lI l s.dev s.attr).isSome = true := by
  obtain ⟨k, hk, hx⟩ := List.getElem_of_mem h
  unfold lI
  refine lN_isSome (k := k) ?_ _ hk
  have : l.getD k zS = s := by simp [List.getD_eq_getElem?_getD, hk, hx]
  rw [this]
  unfold sR
  rw [sE_iff.2 rfl, sE_iff.2 rfl]; rfl
theorem lN_some {l : List Sett} {d a : ByteArray} : ∀ n j, lN l d a n = some j → j < n ∧ sR (l.getD j zS) d a = true
  | 0, j, h => by simp [lN] at h
  | n + 1, j, h => by
    unfold lN at h
    split at h
    · rename_i hs
      simp at h; subst h; exact ⟨by omega, hs⟩
    · have := lN_some n j h
      exact ⟨by omega, this.2⟩
theorem lI_some {l : List Sett} {d a : ByteArray} {j : Nat} (h : lI l d a = some j) : j < l.length ∧ (l.getD j zS).dev = d ∧ (l.getD j zS).attr = a := by
  obtain ⟨h1, h2⟩ := lN_some _ _ h
  unfold sR at h2
  rw [Bool.and_eq_true, sE_iff, sE_iff] at h2
  exact ⟨h1, h2.1, h2.2⟩
theorem rwN_range {L : List Scn} {N : List ByteArray} (hkn : kn L N = true) (d a : ByteArray) : ∀ m, m ≤ N.length → rwN L N d a m = -1 ∨ ∃ q : Nat, rwN L N d a m = q ∧ q < L.length
  | 0, _ => .inl rfl
  | m + 1, hm => by
    unfold rwN
    split
    · exact .inr ⟨_, rfl, (fInt_ix hkn (by omega)).2⟩
    · exact rwN_range hkn d a m (by omega)
theorem rwN_ge {L : List Scn} {N : List ByteArray} (hkn : kn L N = true) {d a : ByteArray} {k : Nat} (hs : (lI (stN L (ixOf L (nameAt N k))) d a).isSome = true) : ∀ m, m ≤ N.length → k < m → ∃ q : Nat, rwN L N d a m = q
  | 0, _, h => absurd h (by omega)
  | m + 1, hm, h => by
    unfold rwN
    split
    · exact ⟨_, rfl⟩
    · rename_i hn
      by_cases e : k = m
      · subst e
        rw [hs, Bool.true_and, Bool.or_eq_true, decide_eq_true_iff, decide_eq_true_iff] at hn
        rcases rwN_range hkn d a k (by omega) with h1 | ⟨q, h1, -⟩
        · rw [h1] at hn; exact absurd (.inl (by omega)) hn
        · exact ⟨q, h1⟩
      · exact rwN_ge hkn hs m (by omega) (by omega)
theorem remI_mem {L : List Scn} {N : List ByteArray} {s : Sett} (h : s ∈ remI L (ixs L N) 0) : ∃ k, k < N.length ∧ s ∈ stN L (ixOf L (nameAt N k)) := by
  unfold remI at h
  rw [List.drop_zero, List.mem_flatMap] at h
  obtain ⟨i, hi, hs⟩ := h
  obtain ⟨k, hk, rfl⟩ := List.getElem_of_mem hi
  have hk' : k < N.length := by rw [ixs_len] at hk; exact hk
  refine ⟨k, hk', ?_⟩
  have := ixs_at (L := L) hk'
  rw [← this]
  have e : (ixs L N).getD k 0 = (ixs L N)[k] := by simp [List.getD_eq_getElem?_getD, hk]
  rw [e]
  exact hs
/-- An attribute that is set has a winner. -/
theorem win_set {L : List Scn} {N : List ByteArray} (hkn : kn L N = true) {s : Sett} (h : s ∈ remI L (ixs L N) 0) : (win L N s.dev s.attr).isSome = true := by
  obtain ⟨k, hk, hm⟩ := remI_mem h
  obtain ⟨q, hq⟩ := rwN_ge hkn (lI_mem hm) N.length (Nat.le_refl _) hk
  rcases win_cases hkn s.dev s.attr with ⟨h1, -⟩ | ⟨q', j, -, h2, -⟩
  · unfold rW at h1; rw [hkn] at h1; rw [show (if true = true then rwN L N s.dev s.attr N.length else -1) = rwN L N s.dev s.attr N.length from rfl, hq] at h1; omega
  · rw [h2]; rfl
/-- The winner's setting. -/
def wval (L : List Scn) (N : List ByteArray) (r : Rf) : Sett := match win L N r.1 r.2 with
  | some p => (stN L p.1).getD p.2 zS
  | none => zS
theorem hasR_snoc (out : List Rf) (x : Rf) (d a : ByteArray) : hasR (out ++ [x]) d a = (hasR out d a || (sE x.1 d && sE x.2 a)) := by
  unfold hasR hasN
  rw [List.take_length, List.take_length, List.any_append]
  simp
theorem yl_refs {L : List Scn} {N : List ByteArray} : ∀ (l : List Sett) (out : List Rf) (F : WF), (∀ d a, F d a = if hasR out d a then none else win L N d a) → (∀ s ∈ l, (win L N s.dev s.attr).isSome = true) →
    (l.foldl addR out).map (wval L N) = out.map (wval L N) ++ yl L F l
  | [], out, F, _, _ => by simp [yl]
  | s :: r, out, F, hF, hs => by
    rw [List.foldl_cons]
    cases hh : hasR out s.dev s.attr
    · have ha : addR out s = out ++ [(s.dev, s.attr)] := by unfold addR; rw [hh]; rfl
      obtain ⟨p, hp⟩ := Option.isSome_iff_exists.1 (hs s (by simp))
      have hFs : F s.dev s.attr = some p := by rw [hF, hh, hp]; rfl
      rw [yl_some hFs, ha, yl_refs r (out ++ [(s.dev, s.attr)]) (Ytloilkfloidnjaa.del F s.dev s.attr) (fun d a => ?_) (fun x hx => hs x (by simp [hx])), List.map_append, List.append_assoc]
      · congr 1
        show [wval L N (s.dev, s.attr)] ++ _ = _
        unfold wval
        rw [hp]; rfl
      · unfold Ytloilkfloidnjaa.del
        rw [hF, hasR_snoc]
        cases (sE s.dev d && sE s.attr a) <;> cases hasR out d a <;> rfl
    · have ha : addR out s = out := by unfold addR; rw [hh]; rfl
      have hFs : F s.dev s.attr = none := by rw [hF, hh]; rfl
      rw [yl_none hFs, ha]
      exact yl_refs r out F hF (fun x hx => hs x (by simp [hx]))
theorem ovl_refs {L : List Scn} {N : List ByteArray} (hkn : kn L N = true) : ovl L N = (rfs L N).map (wval L N) := by
  unfold rfs
  rw [yl_refs (remI L (ixs L N) 0) [] (win L N) (fun d a => by simp [hasR, hasN]) (fun s hs => win_set hkn hs)]
  rfl
/-- References come of settings. -/
theorem rfs_mem {L : List Scn} {N : List ByteArray} {r : Rf} (h : r ∈ rfs L N) : ∃ s ∈ remI L (ixs L N) 0, r = (s.dev, s.attr) := by
  have : ∀ (l : List Sett) (out : List Rf), r ∈ l.foldl addR out → r ∈ out ∨ ∃ s ∈ l, r = (s.dev, s.attr) := by
    intro l
    induction l with
    | nil => intro out h; exact .inl h
    | cons s l ih =>
      intro out h
      rcases ih _ h with h | ⟨x, hx, h⟩
      · unfold addR at h
        split at h
        · exact .inl h
        · rcases List.mem_append.1 h with h | h
          · exact .inl h
          · exact .inr ⟨s, by simp, by simpa using h⟩
      · exact .inr ⟨x, by simp [hx], h⟩
  rcases this _ _ h with h | h
  · simp at h
  · exact h
theorem rfs_win {L : List Scn} {N : List ByteArray} (hkn : kn L N = true) {r : Rf} (h : r ∈ rfs L N) : ∃ q j : Nat, rW L N r.1 r.2 = q ∧ q < L.length ∧ win L N r.1 r.2 = some (q, j) ∧ lI (stN L q) r.1 r.2 = some j ∧ wval L N r = (stN L q).getD j zS := by
  obtain ⟨s, hs, rfl⟩ := rfs_mem h
  have hw := win_set hkn hs
  rcases win_cases hkn s.dev s.attr with ⟨-, h2⟩ | ⟨q, j, h1, h2, h3⟩
  · rw [h2] at hw; simp at hw
  · refine ⟨q, j, h1, ?_, h2, h3, by unfold wval; rw [h2]⟩
    rcases rwN_range hkn s.dev s.attr N.length (Nat.le_refl _) with h | ⟨q', h, hq⟩
    · unfold rW at h1; rw [hkn] at h1; rw [show (if true = true then rwN L N s.dev s.attr N.length else -1) = rwN L N s.dev s.attr N.length from rfl, h] at h1; omega
    · unfold rW at h1; rw [hkn] at h1; rw [show (if true = true then rwN L N s.dev s.attr N.length else -1) = rwN L N s.dev s.attr N.length from rfl, h] at h1; omega
theorem rfs_nodup_aux : ∀ (l : List Sett) (out : List Rf), out.Nodup → (l.foldl addR out).Nodup
  | [], _, h => h
  | s :: l, out, h => by
    rw [List.foldl_cons]
    refine rfs_nodup_aux l _ ?_
    unfold addR
    cases hh : hasR out s.dev s.attr
    · simp only [Bool.false_eq_true, if_false]
      rw [List.nodup_append]
      refine ⟨h, by simp, fun x hx y hy e => ?_⟩
      simp at hy
      subst hy
      unfold hasR hasN at hh
      rw [List.take_length, List.any_eq_false] at hh
      refine hh x hx ?_
      rw [e, Bool.and_eq_true]
      exact ⟨sE_iff.2 rfl, sE_iff.2 rfl⟩
    · exact h
theorem rfs_nodup (L : List Scn) (N : List ByteArray) : (rfs L N).Nodup := rfs_nodup_aux _ _ (by simp)
end Go.Proofs.Ytloilkfloidnjaa
