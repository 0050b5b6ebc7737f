/- Hash trees of the reference: 'Root', 'Tag'; two lists of lists that are equal. -/
import Derived.Test.YtiiehoeoaalbmaaRa
namespace Go.Proofs.Ytiiehoeoaalbmaa
open Go.RowKit

theorem rowsT_pos {row : List Int} (h : row ≠ []) : 0 < (rowsT row).length := by
  obtain ⟨x, hx, -⟩ := rowsT_last h
  exact List.length_pos_iff.2 (fun e => by rw [e] at hx; cases hx)
theorem last_get {Ls : List (List Int)} (h : 0 < Ls.length) : Ls.getD (Ls.length - 1) [] = Ls.getLastD [7] := by
  cases Ls with
  | nil => simp at h
  | cons x r => simp [List.getLastD, List.getLast_eq_getElem]
theorem rtT_get {row : List Int} (h : row ≠ []) : ((rowsT row).getD ((rowsT row).length - 1) []).getD 0 0 = rtT row := by
  rw [last_get (rowsT_pos h)]; rfl
theorem rowsT_get_ne {row : List Int} {k : Nat} (h : k < (rowsT row).length) : (rowsT row).getD k [] ≠ [] := by
  have e : (rowsT row) = (rowsT row).take k ++ (rowsT row).getD k [] :: (rowsT row).drop (k + 1) := by
    have e3 : (rowsT row).getD k [] = (rowsT row)[k] := by simp [h]
    rw [e3, ← List.drop_eq_getElem_cons h, List.take_append_drop]
  exact rowsT_ne e
set_option maxRecDepth 100000 in
set_option maxHeartbeats 4000000 in
theorem rroot_any (v : Value) (L : List (List Int)) (w : World) (h : RowsAt w v L) : Calls Try.prog 44 #[v] w fun e w' => e = .returned (.int .i64 (rtL L)) ∧ Below w.heap.size w w' := by
  unfold rtL
  by_cases h9 : 1000 < L.length
  · rw [if_pos h9]
    obtain ⟨a, cap, rfl, -, -⟩ := h
    have g1 : decide ((L.length : Int) > 1000) = true := by simp; omega
    have g2 : decide ((1000 : Int) < L.length) = true := by simp; omega
    go_enter Try.func44, Try.ntmps44
    go_wp2
    go_ret
    exact ⟨rfl, Below.refl _ _⟩
  · rw [if_neg h9]
    have HR := Lib.hid h
    obtain ⟨a, cap, rfl, -, -⟩ := h
    have g1 : decide ((L.length : Int) > 1000) = false := by simp; omega
    have g2 : decide ((1000 : Int) < L.length) = false := by simp; omega
    by_cases h0 : L = []
    · subst h0
      clear h9 HR
      have HE := Lib.hid (show rtT (lvs []) = 7 from rfl)
      go_enter Try.func44, Try.ntmps44
      go_wp2
      go_ret
      exact ⟨by rw [HE.out]; rfl, Below.refl _ _⟩
    · have z1 : ((L.length : Int) == 0) = false := by simp; exact h0
      have z3 : ((L.length : Int) = 0) = False := by simp; exact h0
      have hn : lvs L ≠ [] := fun e => h0 (by have := congrArg List.length e; rw [lvs_len] at this; exact List.length_eq_zero_iff.1 this)
      have HN := Lib.hid hn
      have H9 := Lib.hid (show L.length ≤ 1000 by omega)
      have H0 := Lib.hid (show 0 < L.length from List.length_pos_iff.2 h0)
      clear hn h9
      go_enter Try.func44, Try.ntmps44
      go_wp2_with fail
      refine (rtree_any _ L _ HR.out H9.out H0.out).mono ?_
      rintro e w1 ⟨⟨u, rfl, hu⟩, hb⟩
      have HB := Lib.hid hb
      have hlen := Lib.hid (show (rowsT (lvs L)).length ≤ 1000 from Nat.le_trans (rowsF_len (lvs L).length (lvs L)) (by rw [lvs_len]; exact H9.out))
      have hrows := hu.rows (by have := hlen.out; omega)
      obtain ⟨ua, uc, rfl⟩ := hu.slice
      have HP := Lib.hid (rowsT_pos HN.out)
      have HG := Lib.hid (rtT_get HN.out)
      have HNE := Lib.hid (rowsT_get_ne (row := lvs L) (k := (rowsT (lvs L)).length - 1) (by have := HP.out; omega))
      obtain ⟨a2, cap2, hva, -, hcs⟩ := hrows
      obtain ⟨rfl, rfl⟩ : ua = a2 ∧ uc = cap2 := by simpa using hva
      obtain ⟨b, off, rfl, hcs2⟩ := hcs (by intro h; have := HP.out; rw [h] at this; simp at this)
      obtain ⟨s, x0, hs⟩ := hcs2 ((rowsT (lvs L)).length - 1) _ (rows_get (by have := HP.out; omega))
      clear hu hb hcs hcs2 hva
      generalize (rowsT (lvs L)).getD ((rowsT (lvs L)).length - 1) [] = x at *
      generalize (rowsT (lvs L)).length = n at *
      obtain ⟨sa, sc, rfl, -, hcs⟩ := hs
      obtain ⟨b2, off2, rfl, hcs2⟩ := hcs HNE.out
      have hx0 : 0 < x.length := List.length_pos_iff.2 HNE.out
      have y0 := hcs2 0 _ (getD_of hx0)
      have hx1 : ¬ x = [] := HNE.out
      rw [Nat.add_zero] at y0
      obtain ⟨rt, hrt⟩ : ∃ r, x.getD 0 0 = r := ⟨_, rfl⟩
      rw [hrt] at y0 HG
      have hn0 := HP.out
      have hn9 := hlen.out
      have e1 : wrap64 ((n : Int) - 1) = n - 1 := IntWalk.wrap64_in _ (by omega)
      have e2 : ((n : Int) - 1).toNat = n - 1 := by omega
      have e3 : 0 ≤ (n : Int) - 1 := by omega
      have e4 : (n : Int) - 1 < n := by omega
      clear hcs hcs2 hrt HNE
      replace hn0 := Lib.hid hn0
      replace hn9 := Lib.hid hn9
      go_wp2
      go_ret
      exact ⟨by rw [← HG.out]; rfl, HB.out⟩
theorem rtagA_any (key : Int) (v : Value) (l : List Int) (w : World) (h : IntsAt w v l) (hl : l.length ≤ 5000) : Calls Try.prog 45 #[.int .i64 key, v] w fun e w' => e = .returned (.int .i64 (Dg (tgd key l))) ∧ Below w.heap.size w w' := by
  have H := Lib.hid h
  obtain ⟨a, cap, rfl, -, -⟩ := h
  go_enter Try.func45, Try.ntmps45
  go_wp2_with fail
  refine (rtagdA_any key _ l _ H.out hl).mono ?_
  rintro e w1 ⟨u, rfl, hu, hb⟩
  have HU := Lib.hid hu
  have HB := Lib.hid hb
  obtain ⟨ua, uc, rfl, -, -⟩ := hu
  clear hb
  go_wp2_with fail
  refine (rsum_any _ (tgd key l) _ HU.out).mono ?_
  rintro e w2 ⟨rfl, n, rfl⟩
  go_wp2
  go_ret
  exact ⟨rfl, HB.out.trans (below_drewN' _ _ _)⟩
set_option maxRecDepth 100000 in
set_option maxHeartbeats 4000000 in
theorem rrows_any (v u : Value) (L : List (List Int)) (w : World) (h : RowsAt w v L) (h' : RowsAt w u L) (h9 : L.length ≤ 1000) : Calls Try.prog 58 #[v, u] w fun e w' => e = .returned (.bool true) ∧ Below w.heap.size w w' := by
  obtain ⟨a, cap, rfl, -, hc⟩ := h
  obtain ⟨a', cap', rfl, -, hc'⟩ := h'
  have HC := Lib.hid hc
  have HC' := Lib.hid hc'
  replace h9 := Lib.hid h9
  clear hc hc'
  go_enter Try.func58, Try.ntmps58
  go_wp2_with fail
  go_loopw [5] (fun i wr => ∃ k : Nat, k ≤ L.length ∧ i = .int .i64 k ∧ Hid (Below w.heap.size w wr)) (fun i _ => L.length - (intOf i).toNat)
  case atStart => exact ⟨0, by omega, rfl, Lib.hid (Below.refl _ _)⟩
  case round =>
    obtain ⟨k, hk, rfl, HB⟩ := hrel
    have hl9 := h9.out
    by_cases hlt : k < L.length
    · obtain ⟨b, off, rfl, hcs⟩ := HC.out (by intro h; rw [h] at hlt; simp at hlt)
      obtain ⟨b', off', rfl, hcs'⟩ := HC'.out (by intro h; rw [h] at hlt; simp at hlt)
      obtain ⟨s, x0, hs⟩ := hcs k _ (rows_get hlt)
      obtain ⟨t, y0, ht⟩ := hcs' k _ (rows_get hlt)
      have x0 := keep1 HB.out x0
      have y0 := keep1 HB.out y0
      have HS := Lib.hid (hs.step HB.out)
      have HT := Lib.hid (ht.step HB.out)
      clear hcs hcs'
      generalize L.getD k [] = x at *
      obtain ⟨sa, sc, rfl, -, -⟩ := hs
      obtain ⟨ta, tc, rfl, -, -⟩ := ht
      go_wp2_with fail
      go_region_law (go_simp; go_at_call 21; refine (ints_any _ _ x x _ (HS.out.step (below_drew _ _)) (HT.out.step (below_drew _ _))).mono ?_; rintro e w3 ⟨rfl, n3, hw3⟩; rw [decide_eq_true (rfl : x = x)]; have HB3 := Lib.hid (show Below w.heap.size w w3 from (HB.out.trans (below_drew _ _)).trans (hw3 ▸ below_drewN' _ _ _)); clear hw3)
      all_goals go_wp2
      all_goals go_roundw
      all_goals first | exact ⟨k + 1, hlt, by go_num, HB3⟩ | (simp [intOf]; omega)
    · go_wp2
      go_ret
      exact ⟨rfl, HB.out⟩
theorem take_snoc {Ls : List (List Int)} {k : Nat} (h : k < Ls.length) : Ls.take (k + 1) = Ls.take k ++ [Ls.getD k []] := by
  rw [List.take_succ_eq_append_getElem h]; simp [h]
theorem row_lit {W : World} {n0 : Nat} (x : List Int) (cs : Array Value) (hc : cs.toList = x.map (Value.int .i64)) (hm : x.length ≤ 1000) (hn : n0 ≤ W.heap.size) (n : Nat) (hx : n = x.length) : (W.alloc (.cells cs 3)).ownsRow n0 3 1 (.slice (some ⟨W.heap.size, 0, none⟩) n n) x.length (x.map (Value.int .i64)) := by
  subst hx
  have hs : cs.size = x.length := by rw [← Array.length_toList, hc, List.length_map]
  exact ⟨by rw [List.length_map, Nat.mul_one], .inr ⟨W.heap.size, x.length, cs, rfl, hn, heap_alloc_new _ _, Nat.le_refl _, by unfold maxLen; omega, by rw [hs, Nat.mul_one], by rw [hc, Nat.mul_one, List.take_of_length_le (by rw [List.length_map]; exact Nat.le_refl _)]⟩⟩
theorem ListsR.two {W : World} {n0 : Nat} {u : Value} {x : List Int} {d : Int} (hn : n0 ≤ W.heap.size) (hu : W.ownsRow n0 3 1 u x.length (x.map (Value.int .i64))) :
    ListsR n0 [x, [0, d]] (.slice (some ⟨W.heap.size + 1, 0, none⟩) 2 2) ((W.alloc (.cells #[.int .i64 0, .int .i64 d] 3)).alloc (.cells #[u, .slice (some ⟨W.heap.size, 0, none⟩) 2 2] 22)) := by
  refine ⟨[u, .slice (some ⟨W.heap.size, 0, none⟩) 2 2], ?_, fun i y hi => ?_⟩
  · have hz : (W.alloc (.cells #[.int .i64 0, .int .i64 d] 3)).heap.size = W.heap.size + 1 := by simp
    have hh := heap_alloc_new (W.alloc (.cells #[.int .i64 0, .int .i64 d] 3)) (.cells #[u, .slice (some ⟨W.heap.size, 0, none⟩) 2 2] 22)
    rw [hz] at hh
    exact ⟨rfl, .inr ⟨W.heap.size + 1, 2, _, rfl, by omega, hh, Nat.le_refl _, by unfold maxLen; omega, rfl, rfl⟩⟩
  · rcases i with _ | _ | i
    · cases hi
      obtain ⟨a, c, rfl⟩ := row_slice hu
      exact ⟨_, rfl, rfl, row_step hu al2⟩
    · cases hi
      exact ⟨_, rfl, rfl, row_step (row_lit [0, d] #[.int .i64 0, .int .i64 d] rfl (by simp) hn 2 rfl) (al _ _)⟩
    · simp at hi
end Go.Proofs.Ytiiehoeoaalbmaa
