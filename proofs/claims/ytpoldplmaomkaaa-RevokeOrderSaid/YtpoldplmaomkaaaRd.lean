/- Sets of tags: the reference's 'Ints', 'Same' and 'insert'. -/
import Derived.Test.YtpoldplmaomkaaaRc
namespace Go.Proofs.Ytpoldplmaomkaaa
open Go.RowKit

theorem take_eq_iff {l l' : List Int} (k : Nat) (hk : k < l.length) (hk' : k < l'.length) (h : l.take k = l'.take k) : l.take (k + 1) = l'.take (k + 1) ↔ l.getD k 0 = l'.getD k 0 := by
  rw [List.take_succ_eq_append_getElem hk, List.take_succ_eq_append_getElem hk', h, List.append_right_inj]
  simp [hk, hk']
set_option maxRecDepth 100000 in
set_option maxHeartbeats 2000000 in
theorem ints_any (v u : Value) (l l' : List Int) (w : World) (h : IntsAt w v l) (h' : IntsAt w u l') :
    Calls Try.prog 32 #[v, u] w fun e w' => e = .returned (.bool (decide (l = l'))) ∧ ∃ n, w' = w.drewN n := by
  obtain ⟨a, cap, rfl, hm, hc⟩ := h
  obtain ⟨a', cap', rfl, hm', hc'⟩ := h'
  unfold maxLen at hm hm'
  have HC := Lib.hid hc
  have HC' := Lib.hid hc'
  clear hc hc'
  by_cases hl : l.length = l'.length
  · have hl1 : ((l.length : Int) != (l'.length : Int)) = false := by simp [hl]
    go_enter Try.func32, Try.ntmps32
    go_wp2_with fail
    go_loopw [5] (fun i wr => ∃ k n : Nat, k ≤ l.length ∧ i = .int .i64 k ∧ Hid (l.take k = l'.take k) ∧ wr = w.drewN n) (fun i _ => l.length - (intOf i).toNat)
    case atStart => exact ⟨0, 0, by omega, rfl, Lib.hid (by simp), rfl⟩
    case round =>
      obtain ⟨k, n, hk, rfl, hT, rfl⟩ := hrel
      by_cases hlt : k < l.length
      · obtain ⟨b, off, rfl, hcs⟩ := HC.out (by intro h; rw [h] at hlt; simp at hlt)
        obtain ⟨b', off', rfl, hcs'⟩ := HC'.out (by intro h; rw [h] at hl; simp at hl; rw [hl] at hlt; simp at hlt)
        have hx := hcs k _ (getD_of hlt)
        have hlt' : k < l'.length := by omega
        have hx' := hcs' k _ (getD_of hlt')
        have HE := Lib.hid (take_eq_iff k hlt hlt' hT.out)
        clear hcs hcs'
        obtain ⟨wq, hwq⟩ : ∃ wq, w.drewN n = wq := ⟨_, rfl⟩
        have hx2 : wq.cell? ⟨b, off + k, none⟩ = some (.int .i64 (l.getD k 0)) := by rw [← hwq]; exact hx
        have hx3 : wq.cell? ⟨b', off' + k, none⟩ = some (.int .i64 (l'.getD k 0)) := by rw [← hwq]; exact hx'
        have hNE := Lib.hid (show l.getD k 0 ≠ l'.getD k 0 → ¬ l = l' from fun hne e => hne (by rw [e]))
        rw [hwq]
        have HW := Lib.hid hwq
        clear hwq hx hx'
        generalize l.getD k 0 = x at *
        generalize l'.getD k 0 = y at *
        by_cases hxy : x = y
        · have e1 : (x != y) = false := by simp [hxy]
          have hT2 := Lib.hid (HE.out.2 hxy)
          subst hxy
          clear HE hNE
          go_wp2_with fail
          go_quiet (fail)
          go_wp2
          go_roundw
          case rel => exact ⟨k + 1, _, by omega, by go_num, hT2, by rw [← HW.out]; exact World.drewN_drewN _ _ _⟩
          case measure => simp [intOf]; omega
        · have e1 : (x != y) = true := by simp [hxy]
          have e2 : (x == y) = false := by simp [hxy]
          have hF := Lib.hid (hNE.out hxy)
          clear HE hNE
          go_wp2_with fail
          go_quiet (fail)
          go_wp2
          go_ret
          exact ⟨ret_bool (by rw [decide_eq_false hF.out]), _, by rw [← HW.out]; exact World.drewN_drewN _ _ _⟩
      · have hF := Lib.hid (show l = l' by have := hT.out; rwa [List.take_of_length_le (by omega), List.take_of_length_le (by omega)] at this)
        have hlt2 : l'.length ≤ k := by omega
        go_wp2
        go_ret
        exact ⟨ret_bool (by rw [decide_eq_true hF.out]), _, rfl⟩
  · have hl1 : ((l.length : Int) != (l'.length : Int)) = true := by simp; omega
    have hl2 : ((l.length : Int) == (l'.length : Int)) = false := by simp; omega
    have hF := Lib.hid (show ¬ l = l' from fun e => hl (by rw [e]))
    go_enter Try.func32, Try.ntmps32
    go_wp2
    go_ret
    exact ⟨ret_bool (by rw [decide_eq_false hF.out]), 0, rfl⟩
set_option maxRecDepth 100000 in
set_option maxHeartbeats 1000000 in
theorem same_any (v u : Value) (l l' : List Int) (w : World) (h : IntsAt w v l) (h' : IntsAt w u l') : Calls Try.prog 15 #[.agg #[v], .agg #[u]] w fun e w' => e = .returned (.bool (decide (l = l'))) ∧ Below w.heap.size w w' := by
  have H := Lib.hid h
  have H' := Lib.hid h'
  obtain ⟨a, cap, rfl, -, -⟩ := h
  obtain ⟨a', cap', rfl, -, -⟩ := h'
  have HB := Lib.hid (al2 (w := w) (o1 := .cells #[.slice a l.length cap] 24) (o2 := .cells #[.slice a' l'.length cap'] 24))
  go_enter Try.func15, Try.ntmps15
  go_wp2_with fail
  refine (ints_any _ _ l l' _ (H.out.step HB.out) (H'.out.step HB.out)).mono ?_
  rintro e w1 ⟨rfl, n, rfl⟩
  go_wp2
  go_ret
  exact ⟨rfl, HB.out.trans (below_drewN' _ _ _)⟩
theorem ins_nil {n : Int} {l xs : List Int} {k : Nat} (hk : k = l.length) (h : xs ++ ins1 n (l.drop k) = insL l n) : xs ++ [n] = insL l n := by
  subst hk; rw [List.drop_length] at h; exact h
theorem ins_full {n : Int} {l xs : List Int} {k : Nat} (hk : k = l.length) (h : xs ++ l.drop k = insL l n) : xs = insL l n := by
  subst hk; rw [List.drop_length, List.append_nil] at h; exact h
theorem ins_step {n : Int} {l xs : List Int} {k : Nat} (hk : k < l.length) (h : xs ++ ins1 n (l.drop k) = insL l n) (hx : ¬ n < l.getD k 0) : (xs ++ [l.getD k 0]) ++ ins1 n (l.drop (k + 1)) = insL l n := by
  rw [← h, List.drop_eq_getElem_cons hk, ins1]
  rw [show l.getD k 0 = l[k] by simp [hk]] at hx ⊢
  rw [if_neg hx]; simp
theorem ins_put {n : Int} {l xs : List Int} {k : Nat} (hk : k < l.length) (h : xs ++ ins1 n (l.drop k) = insL l n) (hx : n < l.getD k 0) : ((xs ++ [n]) ++ [l.getD k 0]) ++ l.drop (k + 1) = insL l n := by
  rw [← h, List.drop_eq_getElem_cons hk, ins1]
  rw [show l.getD k 0 = l[k] by simp [hk]] at hx ⊢
  rw [if_pos hx]; simp
theorem ins_copy {n : Int} {l xs : List Int} {k : Nat} (hk : k < l.length) (h : xs ++ l.drop k = insL l n) : (xs ++ [l.getD k 0]) ++ l.drop (k + 1) = insL l n := by
  rw [← h, List.drop_eq_getElem_cons hk, show l.getD k 0 = l[k] by simp [hk]]; simp
set_option maxRecDepth 100000 in
set_option maxHeartbeats 2000000 in
theorem insert_any (v : Value) (l : List Int) (n : Int) (w : World) (h : IntsAt w v l) (h9 : l.length ≤ 2000) : Calls Try.prog 28 #[v, .int .i64 n] w fun e w' => ∃ u, e = .returned u ∧ w'.ownsRow w.heap.size 3 1 u (insL l n).length ((insL l n).map (Value.int .i64)) ∧ Below w.heap.size w w' := by
  have H := Lib.hid h
  obtain ⟨a, cap, rfl, hm, -⟩ := h
  clear hm
  obtain ⟨i0, hi, hz0, hz1, hz2⟩ := info_parts infoInt
  have HR0 := Lib.hid (show (w.alloc (.cells #[] 3)).ownsRow w.heap.size 3 1 (.slice (some ⟨w.heap.size, 0, none⟩) 0 0) 0 [] from
    ⟨rfl, .inr ⟨w.heap.size, 0, _, rfl, Nat.le_refl _, heap_alloc_new _ _, by omega, by unfold maxLen; omega, rfl, rfl⟩⟩)
  have HB0 := Lib.hid (al w (.cells #[] 3))
  go_enter Try.func28, Try.ntmps28
  go_wp2_with fail
  refine (in_any _ l n _ (H.out.step HB0.out)).mono ?_
  rintro e w' ⟨rfl, rfl⟩
  obtain ⟨W1, hW1⟩ : ∃ W1, w.alloc (.cells #[] 3) = W1 := ⟨_, rfl⟩
  rw [hW1] at HR0 HB0 ⊢
  clear hW1
  obtain ⟨d0, hd0⟩ : ∃ d0, inB l n = d0 := ⟨_, rfl⟩
  have HS0 := Lib.hid (show [] ++ cond d0 (l.drop 0) (ins1 n (l.drop 0)) = insL l n by
    have e : l.contains n = d0 := hd0
    unfold insL; rw [e, List.drop_zero]; cases d0 <;> rfl)
  rw [hd0]
  clear hd0
  go_wp2_with fail
  go_loopw [5, 6, 7] (fun ov dv i wr => ∃ (k : Nat) (d : Bool) (xs : List Int), k ≤ l.length ∧ xs.length ≤ k + 1 ∧ (d = false → xs.length ≤ k) ∧ i = .int .i64 k ∧ dv = .bool d ∧ Hid (wr.ownsRow w.heap.size 3 1 ov xs.length (xs.map (Value.int .i64))) ∧ Hid (xs ++ cond d (l.drop k) (ins1 n (l.drop k)) = insL l n) ∧ Hid (Below w.heap.size w wr)) (fun _ _ i _ => l.length - (intOf i).toNat)
  case atStart => exact ⟨0, d0, [], by omega, by simp, (fun _ => by simp), rfl, rfl, HR0.out, HS0.out, HB0.out⟩
  case round =>
    clear HR0 HS0 HB0
    obtain ⟨k, d, xs, hk, hxl, hxd, rfl, rfl, HR, HS, HB⟩ := hrel
    have hs := HB.out.size
    by_cases hlt : k < l.length
    · obtain ⟨a2, cap2, hva, -, hcs⟩ := H.out
      obtain ⟨rfl, rfl⟩ : a = a2 ∧ cap = cap2 := by simpa using hva
      obtain ⟨b, off, rfl, hcs2⟩ := hcs (by intro h; rw [h] at hlt; simp at hlt)
      have HXW := Lib.hid (hcs2 k _ (getD_of hlt))
      have hx := keep1 HB.out HXW.out
      have xb := World.block_lt_of_cell? _ _ hx
      have xb : b < wr.heap.size := xb
      clear hcs hcs2 hva
      cases d
      · replace hxd := hxd rfl
        by_cases hg : n < l.getD k 0
        · have HN := Lib.hid (ins_put hlt HS.out hg)
          clear HS
          generalize l.getD k 0 = x at *
          have g1 : decide (n < x) = true := decide_eq_true hg
          have g2 : decide (x > n) = true := decide_eq_true hg
          go_wp2_with (first | (at_builtin; refine wpList_append_own _ rfl _ _ 22 rfl w.heap.size 3 i0 (.int .i64 0) 1 8 Try.underlying22 hi hz0 hz1 hz2 rfl (by decide) _ _ _ rfl (HR.out.alloc _) ⟨wr.heap.size, 0, none⟩ 1 1 [.int .i64 n] rfl rfl (cell_one_new _ _ _) (by simp [Value.oneCell']) (by unfold maxLen; omega) (by omega) (by simp; omega) ?_; intro v1 w1 ho1 hg1 _; replace ho1 := Lib.hid (show w1.ownsRow w.heap.size 3 1 v1 (xs.length + 1) ((xs ++ [n]).map (Value.int .i64)) by rw [List.map_append]; exact ho1); have HB1 := Lib.hid (below_own (Nat.le_refl _) HB.out HR.out hg1); have hs1 := HB1.out.size; have hx1 := keep1 HB1.out HXW.out; clear hg1) | (at_builtin; refine wpList_append_own _ rfl _ _ 22 rfl w.heap.size 3 i0 (.int .i64 0) 1 8 Try.underlying22 hi hz0 hz1 hz2 rfl (by decide) _ _ _ rfl (ho1.out.alloc _) ⟨w1.heap.size, 0, none⟩ 1 1 [.int .i64 x] rfl rfl (cell_one_new _ _ _) (by simp [Value.oneCell']) (by unfold maxLen; omega) (by omega) (by simp; omega) ?_; intro v2 w2 ho2 hg2 _))
          have HR2 := Lib.hid (show w2.ownsRow w.heap.size 3 1 v2 ((xs ++ [n]) ++ [x]).length (((xs ++ [n]) ++ [x]).map (Value.int .i64)) by
            rw [List.map_append, List.length_append, List.length_append]; exact ho2)
          have HB2 := Lib.hid (below_own (Nat.le_refl _) HB1.out ho1.out hg2)
          clear ho2 hg2
          go_wp2
          go_roundw
          case rel => exact ⟨k + 1, true, xs ++ [n] ++ [x], by omega, by simp; omega, (fun h => by cases h), by go_num, rfl, HR2, HN, HB2⟩
          case measure => simp [intOf]; omega
        · have HN := Lib.hid (ins_step hlt HS.out hg)
          clear HS
          generalize l.getD k 0 = x at *
          have g1 : decide (n < x) = false := decide_eq_false hg
          have g2 : decide (x > n) = false := decide_eq_false hg
          go_wp2_with (at_builtin; refine wpList_append_own _ rfl _ _ 22 rfl w.heap.size 3 i0 (.int .i64 0) 1 8 Try.underlying22 hi hz0 hz1 hz2 rfl (by decide) _ _ _ rfl (HR.out.alloc _) ⟨wr.heap.size, 0, none⟩ 1 1 [.int .i64 x] rfl rfl (cell_one_new _ _ _) (by simp [Value.oneCell']) (by unfold maxLen; omega) (by omega) (by simp; omega) ?_; intro v1 w1 ho1 hg1 _)
          have HR2 := Lib.hid (show w1.ownsRow w.heap.size 3 1 v1 (xs ++ [x]).length ((xs ++ [x]).map (Value.int .i64)) by
            rw [List.map_append, List.length_append]; exact ho1)
          have HB2 := Lib.hid (below_own (Nat.le_refl _) HB.out HR.out hg1)
          clear ho1 hg1
          go_wp2
          go_roundw
          case rel => exact ⟨k + 1, false, xs ++ [x], by omega, by simp; omega, (fun _ => by simp; omega), by go_num, rfl, HR2, HN, HB2⟩
          case measure => simp [intOf]; omega
      · clear hxd
        have HN := Lib.hid (ins_copy hlt HS.out)
        clear HS
        generalize l.getD k 0 = x at *
        go_wp2_with (at_builtin; refine wpList_append_own _ rfl _ _ 22 rfl w.heap.size 3 i0 (.int .i64 0) 1 8 Try.underlying22 hi hz0 hz1 hz2 rfl (by decide) _ _ _ rfl (HR.out.alloc _) ⟨wr.heap.size, 0, none⟩ 1 1 [.int .i64 x] rfl rfl (cell_one_new _ _ _) (by simp [Value.oneCell']) (by unfold maxLen; omega) (by omega) (by simp; omega) ?_; intro v1 w1 ho1 hg1 _)
        have HR2 := Lib.hid (show w1.ownsRow w.heap.size 3 1 v1 (xs ++ [x]).length ((xs ++ [x]).map (Value.int .i64)) by
          rw [List.map_append, List.length_append]; exact ho1)
        have HB2 := Lib.hid (below_own (Nat.le_refl _) HB.out HR.out hg1)
        clear ho1 hg1
        go_wp2
        go_roundw
        case rel => exact ⟨k + 1, true, xs ++ [x], by omega, by simp; omega, (fun h => by cases h), by go_num, rfl, HR2, HN, HB2⟩
        case measure => simp [intOf]; omega
    · have hkl : k = l.length := by omega
      cases d
      · have HN := Lib.hid (ins_nil hkl HS.out)
        clear HS
        go_wp2_with (at_builtin; refine wpList_append_own _ rfl _ _ 22 rfl w.heap.size 3 i0 (.int .i64 0) 1 8 Try.underlying22 hi hz0 hz1 hz2 rfl (by decide) _ _ _ rfl (HR.out.alloc _) ⟨wr.heap.size, 0, none⟩ 1 1 [.int .i64 n] rfl rfl (cell_one_new _ _ _) (by simp [Value.oneCell']) (by unfold maxLen; omega) (by omega) (by simp; omega) ?_; intro v1 w1 ho1 hg1 _)
        have HR2 := Lib.hid (show w1.ownsRow w.heap.size 3 1 v1 (xs ++ [n]).length ((xs ++ [n]).map (Value.int .i64)) by
          rw [List.map_append, List.length_append]; exact ho1)
        have HB2 := Lib.hid (below_own (Nat.le_refl _) HB.out HR.out hg1)
        clear ho1 hg1
        go_wp2
        go_ret
        exact ⟨_, rfl, by rw [← HN.out]; exact HR2.out, HB2.out⟩
      · have HN := Lib.hid (ins_full hkl HS.out)
        clear HS
        go_wp2
        go_ret
        exact ⟨_, rfl, by rw [← HN.out]; exact HR.out, HB.out⟩
end Go.Proofs.Ytpoldplmaomkaaa
