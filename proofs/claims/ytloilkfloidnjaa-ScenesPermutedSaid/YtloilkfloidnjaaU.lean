/- More plain facts on overlays. -/
import Derived.Test.YtloilkfloidnjaaQ
import Derived.Deep.CutRange
import Derived.Deep.RegionHeld3
namespace Go.Proofs.Ytloilkfloidnjaa
open Go.RowKit Go.WideMaps

theorem few_fit {L : List Scn} {N : List ByteArray} (h : few L N.length = true) (hk : ∀ x ∈ L, x.ok) (hnk : ∀ x ∈ N, x.size ≤ maxLen) : Fit L N := by
  unfold few at h
  rw [Bool.and_eq_true, Bool.and_eq_true, List.all_eq_true, decide_eq_true_iff, decide_eq_true_iff] at h
  exact ⟨hk, fun x hx => by simpa using h.1 x hx, h.2.1, hnk, Nat.le_trans h.2.2 (by decide)⟩
theorem eqL_refl (l : List Sett) : eqL l l = true := eqL_yes rfl fun _ _ => sS_iff.2 rfl
theorem few_call {v vn : Value} {L : List Scn} {N : List ByteArray} {w : World} (h : ScnsAt w v L) (hn : NamesAt w vn N) : Calls Try.prog 12 #[v, vn] w fun e w' => e = .returned (.bool (few L N.length)) ∧ w = w' := by
  obtain ⟨an, cn, rfl, hm, -⟩ := hn
  exact few_any v L an N.length cn w h hm
/-- Five cells of a block hold a setting. -/
def Five (w : World) (n : Nat) (a b c : ByteArray) (t : Int) (u : ByteArray) : Prop :=
  w.cell? ⟨n, 0, none⟩ = some (.string a) ∧ w.cell? ⟨n, 1, none⟩ = some (.string b) ∧ w.cell? ⟨n, 2, none⟩ = some (.string c) ∧ w.cell? ⟨n, 3, none⟩ = some (.int .i64 t) ∧ w.cell? ⟨n, 4, none⟩ = some (.string u)
theorem five_cells {w : World} {n : Nat} {z0 z1 z2 z3 z4 : Value} (h0 : w.cell? ⟨n, 0, none⟩ = some z0) (h1 : w.cell? ⟨n, 1, none⟩ = some z1) (h2 : w.cell? ⟨n, 2, none⟩ = some z2) (h3 : w.cell? ⟨n, 3, none⟩ = some z3) (h4 : w.cell? ⟨n, 4, none⟩ = some z4) (a b c : ByteArray) (t : Int) (u : ByteArray) :
    Five (((((w.setCell ⟨n, 0, none⟩ (.string a)).setCell ⟨n, 1, none⟩ (.string b)).setCell ⟨n, 2, none⟩ (.string c)).setCell ⟨n, 3, none⟩ (.int .i64 t)).setCell ⟨n, 4, none⟩ (.string u)) n a b c t u := by
  unfold Five
  simp [go_sem, h0, h1, h2, h3, h4]
abbrev c40 : Obj := .cells #[.string ⟨#[]⟩, .string ⟨#[]⟩, .string ⟨#[]⟩, .int .i64 0, .string ⟨#[]⟩] 40
theorem five_new (w : World) (a b c : ByteArray) (t : Int) (u : ByteArray) : Five (w.alloc (.cells #[.string a, .string b, .string c, .int .i64 t, .string u] 40)) w.heap.size a b c t u :=
  ⟨cell_new' w _ 40 _ rfl 0, cell_new' w _ 40 _ rfl 1, cell_new' w _ 40 _ rfl 2, cell_new' w _ 40 _ rfl 3, cell_new' w _ 40 _ rfl 4⟩
/-- A setting's reference. -/
def Sett.rf (x : Sett) : Rf := (x.dev, x.attr)
theorem wval_rf {L : List Scn} {N : List ByteArray} (hkn : kn L N = true) {r : Rf} (h : r ∈ rfs L N) : (wval L N r).rf = r := by
  obtain ⟨q, j, -, -, -, h4, h5⟩ := rfs_win hkn h
  obtain ⟨-, h6, h7⟩ := lI_some h4
  rw [h5]
  unfold Sett.rf
  rw [h6, h7]
theorem ovl_rfs {L : List Scn} {N : List ByteArray} (hkn : kn L N = true) : (ovl L N).map Sett.rf = rfs L N := by
  rw [ovl_refs hkn, List.map_map]
  have : ∀ l : List Rf, (∀ r ∈ l, r ∈ rfs L N) → l.map (Sett.rf ∘ wval L N) = l := by
    intro l
    induction l with
    | nil => intro _; rfl
    | cons r l ih => intro h; rw [List.map_cons, ih fun x hx => h x (by simp [hx])]; exact congrArg (· :: l) (wval_rf hkn (h r (by simp)))
  exact this _ fun _ h => h
theorem ovl_at {L : List Scn} {N : List ByteArray} (hkn : kn L N = true) {i : Nat} (h : i < (ovl L N).length) : ∃ q j : Nat, rW L N ((ovl L N).getD i zS).dev ((ovl L N).getD i zS).attr = q ∧ q < L.length ∧
    win L N ((ovl L N).getD i zS).dev ((ovl L N).getD i zS).attr = some (q, j) ∧ lI (stN L q) ((ovl L N).getD i zS).dev ((ovl L N).getD i zS).attr = some j ∧ (stN L q).getD j zS = (ovl L N).getD i zS := by
  have hm : (ovl L N).getD i zS ∈ ovl L N := sett_mem h
  generalize (ovl L N).getD i zS = x at *
  have h0 : x ∈ (rfs L N).map (wval L N) := by rw [← ovl_refs hkn]; exact hm
  obtain ⟨r, hr, rfl⟩ := List.mem_map.1 h0
  have hrf := wval_rf hkn hr
  obtain ⟨q, j, h1, h2, h3, h4, h5⟩ := rfs_win hkn hr
  have e1 : (wval L N r).dev = r.1 := congrArg Prod.fst hrf
  have e2 : (wval L N r).attr = r.2 := congrArg Prod.snd hrf
  rw [e1, e2]
  exact ⟨q, j, h1, h2, h3, h4, h5.symm⟩
theorem ovl_ne {L : List Scn} {N : List ByteArray} (hkn : kn L N = true) {i k : Nat} (h : i < (ovl L N).length) (hk : k < (ovl L N).length) (hne : i ≠ k) : sR ((ovl L N).getD k zS) ((ovl L N).getD i zS).dev ((ovl L N).getD i zS).attr = false := by
  rw [Bool.eq_false_iff]
  intro hs
  unfold sR at hs
  rw [Bool.and_eq_true, sE_iff, sE_iff] at hs
  have hn := rfs_nodup L N
  rw [← ovl_rfs hkn] at hn
  have e1 : ((ovl L N).map Sett.rf)[i]'(by simpa using h) = ((ovl L N).getD i zS).rf := by simp [List.getD_eq_getElem?_getD, h]
  have e2 : ((ovl L N).map Sett.rf)[k]'(by simpa using hk) = ((ovl L N).getD k zS).rf := by simp [List.getD_eq_getElem?_getD, hk]
  have e3 : ((ovl L N).getD i zS).rf = ((ovl L N).getD k zS).rf := by unfold Sett.rf; rw [hs.1, hs.2]
  have hp := List.pairwise_iff_getElem.1 hn
  rcases Nat.lt_or_gt_of_ne hne with hlt | hlt
  · exact hp i k (by simpa using h) (by simpa using hk) hlt (e1.trans (e3.trans e2.symm))
  · exact hp k i (by simpa using hk) (by simpa using h) hlt (e2.trans (e3.symm.trans e1.symm))
theorem mem_addR_mono (r : Rf) : ∀ (l : List Sett) (out : List Rf), r ∈ out → r ∈ l.foldl addR out
  | [], _, h => h
  | s :: l, out, h => mem_addR_mono r l _ (by unfold addR; split <;> simp [h])
theorem mem_rfs_aux {s : Sett} : ∀ (l : List Sett) (out : List Rf), s ∈ l → s.rf ∈ l.foldl addR out
  | x :: l, out, h => by
    rw [List.foldl_cons]
    rcases List.mem_cons.1 h with rfl | h
    · refine mem_addR_mono _ l _ ?_
      unfold addR
      split
      · rename_i hh
        unfold hasR hasN at hh
        rw [List.take_length, List.any_eq_true] at hh
        obtain ⟨r, hr, he⟩ := hh
        rw [Bool.and_eq_true, sE_iff, sE_iff] at he
        have : r = s.rf := Prod.ext he.1 he.2
        rw [← this]; exact hr
      · simp [Sett.rf]
    · exact mem_rfs_aux l _ h
theorem ixs_mem {L : List Scn} {N : List ByteArray} {k : Nat} (hk : k < N.length) : ixOf L (nameAt N k) ∈ ixs L N := by
  rw [← ixs_at hk]
  exact nat_mem (by rw [ixs_len]; exact hk)
/-- The reference's winner sets the attribute, in a scene that is named. -/
theorem rwN_set {L : List Scn} {N : List ByteArray} {d a : ByteArray} : ∀ m, m ≤ N.length → rwN L N d a m ≠ -1 → ∃ k, k < m ∧ rwN L N d a m = (ixOf L (nameAt N k) : Int) ∧ (lI (stN L (ixOf L (nameAt N k))) d a).isSome = true
  | 0, _, h => absurd rfl h
  | m + 1, hm, h => by
    unfold rwN at h ⊢
    split
    · rename_i hc
      rw [Bool.and_eq_true] at hc
      exact ⟨m, by omega, rfl, hc.1⟩
    · rename_i hc
      rw [if_neg hc] at h
      obtain ⟨k, h1, h2, h3⟩ := rwN_set m (by omega) h
      exact ⟨k, by omega, h2, h3⟩
theorem ovl_of {L : List Scn} {N : List ByteArray} (hkn : kn L N = true) (d a : ByteArray) : (lI (ovl L N) d a).isSome = decide (0 ≤ rW L N d a) := by
  rcases win_cases hkn d a with ⟨h1, h2⟩ | ⟨q, j, h1, h2, h3⟩
  · rw [h1]
    have : decide ((0 : Int) ≤ -1) = false := by decide
    rw [this, Bool.eq_false_iff]
    intro h
    obtain ⟨i, hi⟩ := Option.isSome_iff_exists.1 h
    obtain ⟨hl, hd, ha⟩ := lI_some hi
    obtain ⟨q, j, h3, -⟩ := ovl_at hkn hl
    rw [hd, ha, h1] at h3
    omega
  · rw [h1]
    have : decide ((0 : Int) ≤ (q : Int)) = true := by rw [decide_eq_true_iff]; omega
    rw [this]
    have hr : rW L N d a = rwN L N d a N.length := by unfold rW; rw [hkn]; rfl
    obtain ⟨k, hk, -, hs⟩ := rwN_set (L := L) (N := N) (d := d) (a := a) N.length (Nat.le_refl _) (by rw [← hr, h1]; omega)
    obtain ⟨j', hj'⟩ := Option.isSome_iff_exists.1 hs
    obtain ⟨h4, h5, h6⟩ := lI_some hj'
    have hm : (stN L (ixOf L (nameAt N k))).getD j' zS ∈ remI L (ixs L N) 0 := by
      unfold remI
      rw [List.drop_zero, List.mem_flatMap]
      exact ⟨_, ixs_mem hk, sett_mem h4⟩
    have h7 := mem_rfs_aux _ [] hm
    have h8 : Sett.rf ((stN L (ixOf L (nameAt N k))).getD j' zS) ∈ (ovl L N).map Sett.rf := by rw [ovl_rfs hkn]; exact h7
    obtain ⟨x, hx, he⟩ := List.mem_map.1 h8
    have e1 : x.dev = d := by rw [← h5]; exact congrArg Prod.fst he
    have e2 : x.attr = a := by rw [← h6]; exact congrArg Prod.snd he
    rw [← e1, ← e2]
    exact lI_mem hx
end Go.Proofs.Ytloilkfloidnjaa
