import Derived.Test.YteodafhgfcbdpaaBa
import Derived.Test.YteodafhgfcbdpaaCm
namespace Go.Proofs.Yteodafhgfcbdpaa
open Go.RowKit

theorem tmod_split {m : Int} (hm : 0 < m) (n : Int) : n % m = if n.tmod m < 0 then n.tmod m + m else n.tmod m := by
  by_cases h : 0 ≤ n
  · rw [Int.tmod_eq_emod_of_nonneg h, if_neg (by have := Int.emod_nonneg n (show m ≠ 0 by omega); omega)]
  · have e : n.tmod m = -((-n) % m) := by rw [← Int.tmod_eq_emod_of_nonneg (by omega), Int.neg_tmod, Int.neg_neg]
    rw [e]
    have h1 := Int.emod_nonneg (-n) (show m ≠ 0 by omega)
    have h2 := Int.emod_lt_of_pos (-n) hm
    have h3 := Int.emod_nonneg n (show m ≠ 0 by omega)
    have h4 := Int.emod_lt_of_pos n hm
    have d : m ∣ (n % m + (-n) % m) := by
      have e1 := Int.emod_add_mul_ediv n m
      have e2 := Int.emod_add_mul_ediv (-n) m
      exact ⟨-(n / m) - (-n) / m, by rw [Int.mul_sub, Int.mul_neg]; omega⟩
    obtain ⟨k, hk⟩ := d
    by_cases hz : (-n) % m = 0
    · rw [if_neg (by omega)]
      have : k = 0 := by
        rcases Int.lt_trichotomy k 0 with hh | hh | hh
        · have := Int.mul_le_mul_of_nonneg_left (show k ≤ -1 by omega) (show 0 ≤ m by omega); omega
        · exact hh
        · have := Int.mul_le_mul_of_nonneg_left (show 1 ≤ k by omega) (show 0 ≤ m by omega); omega
      subst this; omega
    · rw [if_pos (by omega)]
      have : k = 1 := by
        rcases Int.lt_trichotomy k 1 with hh | hh | hh
        · have := Int.mul_le_mul_of_nonneg_left (show k ≤ 0 by omega) (show 0 ≤ m by omega); omega
        · exact hh
        · have := Int.mul_le_mul_of_nonneg_left (show 2 ≤ k by omega) (show 0 ≤ m by omega); omega
      subst this; omega
theorem tmod_wrap {m : Int} (hm : 0 < m) (h2 : m ≤ 2147483647) (n : Int) : -2147483647 ≤ n.tmod m ∧ n.tmod m ≤ 2147483647 := by
  have h := tmod_split hm n
  have h3 := Int.emod_nonneg n (show m ≠ 0 by omega)
  have h4 := Int.emod_lt_of_pos n hm
  split at h <;> omega
set_option maxHeartbeats 1000000 in
theorem remainder_any (n m : Int) (w : World) (hm : 0 < m) (h2 : m ≤ 2147483647) :
    Calls Try.prog 74 #[.int .i64 n, .int .i64 m] w fun e w' => e = .returned (.int .i64 (n % m)) ∧ w = w' := by
  have hs := tmod_split hm n
  obtain ⟨b1, b2⟩ := tmod_wrap hm h2 n
  by_cases h : n.tmod m < 0
  · rw [if_pos h] at hs
    have HS := Lib.hid hs
    clear hs
    go_enter Try.func74, Try.ntmps74
    go_wp2
    go_ret
    exact ⟨ret_int HS.out.symm, rfl⟩
  · rw [if_neg h] at hs
    have HS := Lib.hid hs
    clear hs
    go_enter Try.func74, Try.ntmps74
    go_wp2
    go_ret
    exact ⟨ret_int HS.out.symm, rfl⟩
open Go.RowKit

set_option maxRecDepth 100000 in
set_option maxHeartbeats 1000000 in
theorem digest_any (v : Value) (l : List Int) (w : World) (h : IntsAt w v l) :
    Calls Try.prog 62 #[v] w fun e w' => e = .returned (.int .i64 (Dg l)) ∧ w = w' := by
  obtain ⟨a, cap, rfl, hm, hc⟩ := h
  unfold maxLen at hm
  have HC := Lib.hid hc
  clear hc
  go_enter Try.func62, Try.ntmps62
  go_wp2_with fail
  go_loop [3, 8] (fun d i => ∃ k : Nat, k ≤ l.length ∧ i = .int .i64 k ∧ d = .int .i64 (Dg (l.take k))) (fun _ i => l.length - (intOf i).toNat)
  case atStart => exact ⟨0, by omega, rfl, rfl⟩
  case round =>
    obtain ⟨k, hk, rfl, rfl⟩ := hrel
    by_cases hlt : k < l.length
    · obtain ⟨b, off, rfl, hcs⟩ := HC.out (by intro h; rw [h] at hlt; simp at hlt)
      have hx := hcs k _ (getD_of hlt)
      have HT := Lib.hid (show Dg (l.take (k + 1)) = dg (Dg (l.take k)) (l.getD k 0) by rw [List.take_succ_eq_append_getElem hlt, Dg_snoc]; simp [hlt])
      obtain ⟨g1, g2⟩ := Dg_bd (l.take k)
      clear hcs
      generalize l.getD k 0 = x at *
      generalize Dg (l.take k) = d at *
      have g3 : 0 ≤ x % 2147483647 := Int.emod_nonneg _ (by omega)
      have g4 : x % 2147483647 < 2147483647 := Int.emod_lt_of_pos _ (by omega)
      go_wp2_with fail
      refine (remainder_any x 2147483647 _ (by omega) (by omega)).mono ?_
      rintro e w' ⟨rfl, rfl⟩
      go_wp2_with fail
      refine (remainder_any _ 2147483647 _ (by omega) (by omega)).mono ?_
      rintro e w' ⟨rfl, rfl⟩
      go_wp2
      go_round
      case rel => exact ⟨k + 1, by omega, by go_num, by rw [HT.out]; rfl⟩
      case measure => simp [intOf]; omega
    · have HL := Lib.hid (show l.take k = l from List.take_of_length_le (by omega))
      go_wp2
      go_ret
      exact ⟨ret_int (by rw [HL.out]), rfl⟩

set_option maxRecDepth 100000 in
set_option maxHeartbeats 2000000 in
theorem tag_any (key : Int) (v : Value) (l : List Int) (w : World) (h : IntsAt w v l) (hl : l.length ≤ 100000) (hn : l ≠ []) :
    Calls Try.prog 30 #[.int .i64 key, v] w fun e w' => e = .returned (.int .i64 (Dg (key :: (l.length : Int) :: l))) ∧ Below w.heap.size w w' := by
  have H := Lib.hid h
  obtain ⟨a, cap, rfl, hm, hc⟩ := h
  unfold maxLen at hm
  have HC := Lib.hid hc
  clear hc
  obtain ⟨i0, hi, hz0, hz1, hz2⟩ := info_parts infoInt
  have c1 : 2 + l.length ≤ maxLen := by unfold maxLen; omega
  have c2 : (2 + l.length) * 8 ≤ 140737488355328 := by omega
  have HR := Lib.hid (show (w.alloc (.cells #[.int .i64 key, .int .i64 (l.length : Int)] 3)).ownsRow w.heap.size 3 1 (.slice (some ⟨w.heap.size, 0, none⟩) 2 2) 2 [.int .i64 key, .int .i64 (l.length : Int)] from
    ⟨rfl, .inr ⟨w.heap.size, 2, _, rfl, Nat.le_refl _, heap_alloc_new _ _, by omega, by unfold maxLen; omega, rfl, rfl⟩⟩)
  obtain ⟨b, off, rfl, hcs⟩ := HC.out hn
  have HN := Lib.hid (show ∀ j u, (l.map (Value.int .i64))[j]? = some u → (w.alloc (.cells #[.int .i64 key, .int .i64 (l.length : Int)] 3)).cell? ((⟨b, off, none⟩ : Addr).add j) = some u from fun j u hu => by
    rw [List.getElem?_map] at hu
    cases hj : l[j]? with
    | none => rw [hj] at hu; cases hu
    | some x =>
      rw [hj] at hu
      simp only [Option.map_some, Option.some.injEq] at hu
      subst hu
      rw [Go.WideShapes.add_plain]
      exact keep1 (al _ _) (hcs j x hj))
  clear hcs
  go_enter Try.func30, Try.ntmps30
  go_wp2_with (at_builtin; refine wpList_append_own _ rfl _ _ 22 rfl w.heap.size 3 i0 (.int .i64 0) 1 8 Try.underlying22 hi hz0 hz1 hz2 rfl (by decide) _ _ _ rfl HR.out ⟨b, off, none⟩ l.length cap (l.map (Value.int .i64)) rfl (by simp) HN.out (by simp [Value.oneCell']) c1 c2 (by simp) ?_; intro v' w1 hown hgrow _; have HO := Lib.hid hown; have HG := Lib.hid hgrow; clear hown hgrow)
  have HI := Lib.hid (ints_of_row (xs := key :: (l.length : Int) :: l) (show w1.ownsRow w.heap.size 3 1 v' (l.length + 1 + 1) _ by rw [show l.length + 1 + 1 = 2 + l.length by omega]; exact HO.out))
  have HB := Lib.hid ((al w (.cells #[.int .i64 key, .int .i64 (l.length : Int)] 3)).grown HG.out (by simp) (fun k e => by cases e; exact Nat.le_refl _))
  refine (digest_any _ _ _ HI.out).mono ?_
  rintro e w' ⟨rfl, rfl⟩
  go_wp2
  go_ret
  exact ⟨rfl, HB.out⟩
open Go.RowKit

theorem modulus_any (w : World) : Calls Try.prog 71 #[] w fun e w' => e = .returned (.int .i64 2147483647) ∧ w = w' := by
  go_enter Try.func71, Try.ntmps71
  go_wp2
  go_ret
  exact ⟨rfl, rfl⟩
set_option maxHeartbeats 1000000 in
theorem rrem_any (n m : Int) (w : World) (hm : 0 < m) (h2 : m ≤ 2147483647) :
    Calls Try.prog 75 #[.int .i64 n, .int .i64 m] w fun e w' => e = .returned (.int .i64 (n % m)) ∧ w = w' := by
  have hs := tmod_split hm n
  obtain ⟨b1, b2⟩ := tmod_wrap hm h2 n
  by_cases h : n.tmod m < 0
  · rw [if_pos h] at hs
    have HS := Lib.hid hs
    clear hs
    go_enter Try.func75, Try.ntmps75
    go_wp2
    go_ret
    exact ⟨ret_int HS.out.symm, rfl⟩
  · rw [if_neg h] at hs
    have HS := Lib.hid hs
    clear hs
    go_enter Try.func75, Try.ntmps75
    go_wp2
    go_ret
    exact ⟨ret_int HS.out.symm, rfl⟩
theorem modulus_q (w : World) (n : Nat) : Calls Try.prog 71 #[] (w.drewN n) fun e w' => e = .returned (.int .i64 2147483647) ∧ w' = w.drewN n := (modulus_any _).mono fun _ _ h => ⟨h.1, h.2.symm⟩
theorem rrem_q (x : Int) (w : World) (n : Nat) : Calls Try.prog 75 #[.int .i64 x, .int .i64 2147483647] (w.drewN n) fun e w' => e = .returned (.int .i64 (x % 2147483647)) ∧ w' = w.drewN n := (rrem_any x _ _ (by omega) (by omega)).mono fun _ _ h => ⟨h.1, h.2.symm⟩
set_option maxRecDepth 100000 in
set_option maxHeartbeats 2000000 in
theorem rsum_any (v : Value) (l : List Int) (w : World) (h : IntsAt w v l) :
    Calls Try.prog 63 #[v] w fun e w' => e = .returned (.int .i64 (Dg l)) ∧ ∃ n, w' = w.drewN n := by
  obtain ⟨a, cap, rfl, hm, hc⟩ := h
  unfold maxLen at hm
  have HC := Lib.hid hc
  clear hc
  go_enter Try.func63, Try.ntmps63
  go_wp2_with fail
  go_loopw [3, 4] (fun d i wr => ∃ k n : Nat, k ≤ l.length ∧ i = .int .i64 k ∧ d = .int .i64 (Dg (l.take k)) ∧ wr = w.drewN n) (fun _ i _ => l.length - (intOf i).toNat)
  case atStart => exact ⟨0, 0, by omega, rfl, rfl, rfl⟩
  case round =>
    obtain ⟨k, n, hk, rfl, rfl, rfl⟩ := hrel
    by_cases hlt : k < l.length
    · obtain ⟨b, off, rfl, hcs⟩ := HC.out (by intro h; rw [h] at hlt; simp at hlt)
      have hx := hcs k _ (getD_of hlt)
      have HT := Lib.hid (show Dg (l.take (k + 1)) = dg (Dg (l.take k)) (l.getD k 0) by rw [List.take_succ_eq_append_getElem hlt, Dg_snoc]; simp [hlt])
      obtain ⟨g1, g2⟩ := Dg_bd (l.take k)
      clear hcs
      obtain ⟨wq, hwq⟩ : ∃ wq, w.drewN n = wq := ⟨_, rfl⟩
      have hx2 : wq.cell? ⟨b, off + k, none⟩ = some (.int .i64 (l.getD k 0)) := by rw [← hwq]; exact hx
      rw [hwq]
      have HW := Lib.hid hwq
      clear hwq hx
      generalize l.getD k 0 = x at *
      generalize Dg (l.take k) = d at *
      have g3 : 0 ≤ x % 2147483647 := Int.emod_nonneg _ (by omega)
      have g4 : x % 2147483647 < 2147483647 := Int.emod_lt_of_pos _ (by omega)
      have q1 : IntKind.i64.wrap (d * 1000003) = d * 1000003 := IntWalk.i64_in _ (by omega)
      have q2 : IntKind.i64.wrap (d * 1000003 + x % 2147483647) = d * 1000003 + x % 2147483647 := IntWalk.i64_in _ (by omega)
      have q3 : IntKind.i64.wrap (d * 1000003 + x % 2147483647 + 1) = d * 1000003 + x % 2147483647 + 1 := IntWalk.i64_in _ (by omega)
      have q4 : (d * 1000003 + x % 2147483647 + 1).tmod 2147483647 = (d * 1000003 + x % 2147483647 + 1) % 2147483647 := Int.tmod_eq_emod_of_nonneg (by omega)
      go_wp2_with fail
      go_quiet (first | (go_at_call 71; exact Calls.quiet_of_same (modulus_q _ _)) | (go_at_call 75; exact Calls.quiet_of_same (rrem_q _ _ _)))
      clear q1 q2 q3 q4
      go_wp2
      go_roundw
      case rel => exact ⟨k + 1, _, by omega, by go_num, by rw [HT.out]; rfl, by rw [← HW.out]; exact World.drewN_drewN _ _ _⟩
      case measure => simp [intOf]; omega
    · have HL := Lib.hid (show l.take k = l from List.take_of_length_le (by omega))
      go_wp2
      go_ret
      exact ⟨ret_int (by rw [HL.out]), _, rfl⟩
open Go.RowKit

theorem Cs.other {w : World} {n b : Nat} {vs : Array Value} (h : Cs w n vs) (hne : n ≠ b) (j : Nat) (v : Value) : Cs (w.setCell ⟨b, j, none⟩ v) n vs := by
  have hb := Below.heap_setCell w ⟨b, j, none⟩ v n hne
  exact ⟨fun i hi => (World.cell?_of_block (a := ⟨n, i, none⟩) hb).trans (h.1 i hi), fun i hi => (World.frozen?_of_block (a := ⟨n, i, none⟩) hb).trans (h.2.1 i hi), by simpa using h.2.2⟩
theorem Cs.set {w : World} {b : Nat} {vs : Array Value} (h : Cs w b vs) (j : Nat) (hj : j < vs.size) (v : Value) {vs' : Array Value} (hvs : vs.setIfInBounds j v = vs') : Cs (w.setCell ⟨b, j, none⟩ v) b vs' := by
  subst hvs
  have hsz : (vs.setIfInBounds j v).size = vs.size := by simp
  refine ⟨fun i hi => ?_, fun i hi => ?_, by simpa using h.2.2⟩
  · rw [hsz] at hi
    by_cases e : j = i
    · subst e
      rw [World.cell?_setCell_same _ _ _ (u := vs[j]) ((h.1 j hj).trans (Array.getElem?_eq_getElem hj))]
      simp [hj]
    · rw [World.cell?_setCell_other _ _ _ _ (by intro h2; injection h2 with _ h3; exact e h3), h.1 i hi]
      simp [e]
  · rw [hsz] at hi
    rw [World.frozen?_setCell]; exact h.2.1 i hi
open Go.RowKit

/-- A node, a leaf; the row that follows a row; all rows. -/
def nd (x y : Int) : Int := Dg [1, x, y]
def lf (l : List Int) : Int := Dg [0, Dg l]
def pairs (row : List Int) : List Int := (List.range (row.length / 2)).map fun i => nd (row.getD (2 * i) 0) (row.getD (2 * i + 1) 0)
def upR (row : List Int) : List Int := pairs row ++ (if row.length % 2 = 1 then [row.getD (row.length - 1) 0] else [])
theorem pairs_len (row : List Int) : (pairs row).length = row.length / 2 := by simp [pairs]
theorem upR_len (row : List Int) : (upR row).length = (row.length + 1) / 2 := by
  unfold upR
  rw [List.length_append, pairs_len]
  split <;> simp <;> omega
theorem pairs_take {row : List Int} {k : Nat} (h : k < row.length / 2) : (pairs row).take (k + 1) = (pairs row).take k ++ [nd (row.getD (2 * k) 0) (row.getD (2 * k + 1) 0)] := by
  rw [List.take_succ_eq_append_getElem (by rw [pairs_len]; exact h)]; simp [pairs]
def rowsF : Nat → List Int → List (List Int)
  | 0, _ => []
  | n + 1, row => if 1 < row.length then row :: rowsF n (upR row) else if row.length = 1 then [row] else []
def rowsT (row : List Int) : List (List Int) := rowsF row.length row
theorem rowsF_more : ∀ (n m : Nat) (row : List Int), row.length ≤ n → row.length ≤ m → rowsF n row = rowsF m row
  | 0, 0, _, _, _ => rfl
  | 0, m + 1, row, h, _ => by
    have : row.length = 0 := by omega
    simp [rowsF, this]
  | n + 1, 0, row, _, h => by
    have : row.length = 0 := by omega
    simp [rowsF, this]
  | n + 1, m + 1, row, h, h2 => by
    unfold rowsF
    by_cases g : 1 < row.length
    · rw [if_pos g, if_pos g, rowsF_more n m (upR row) (by rw [upR_len]; omega) (by rw [upR_len]; omega)]
    · rw [if_neg g, if_neg g]
theorem rowsT_more {row : List Int} (h : 1 < row.length) : rowsT row = row :: rowsT (upR row) := by
  unfold rowsT
  rw [show row.length = (row.length - 1) + 1 by omega]
  conv => lhs; unfold rowsF
  rw [if_pos h, rowsF_more (row.length - 1) (upR row).length (upR row) (by rw [upR_len]; omega) (Nat.le_refl _)]
theorem rowsT_one {row : List Int} (h : row.length = 1) : rowsT row = [row] := by
  unfold rowsT
  rw [h]; simp [rowsF, h]
theorem rowsT_none : rowsT [] = [] := rfl
/-- The row of the leaves; the root. -/
def lvs (L : List (List Int)) : List Int := L.map lf
def rtT (row : List Int) : Int := ((rowsT row).getLastD [7]).getD 0 0
def rtL (L : List (List Int)) : Int := if 1000 < L.length then 0 else rtT (lvs L)
end Go.Proofs.Yteodafhgfcbdpaa
