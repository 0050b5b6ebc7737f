/- Frames, the reference: small functions on bytes. -/
import Derived.Test.YtebeaekiaikgmaaPb
namespace Go.Proofs.Ytebeaekiaikgmaa
open Go.RowKit

theorem or_a (y0 y1 : Int) (h0 : 0 ≤ y0 ∧ y0 ≤ 255) (h1 : 0 ≤ y1 ∧ y1 ≤ 255) : Go.bits .or .i64 (y0 * 16777216) (y1 * 65536) = y0 * 16777216 + y1 * 65536 :=
  bits_join .i64 62 (by decide) (fun n a b => IntWalk.i64_in _ (by omega)) 24 (y0 * 16777216) (y1 * 65536) (by omega) (by omega) (by omega) (by omega) (by omega) (by omega)
theorem or_b (y0 y2 : Int) (h0 : 0 ≤ y0 ∧ y0 ≤ 65535) (h1 : 0 ≤ y2 ∧ y2 ≤ 255) : Go.bits .or .i64 (y0 * 65536) (y2 * 256) = y0 * 65536 + y2 * 256 :=
  bits_join .i64 62 (by decide) (fun n a b => IntWalk.i64_in _ (by omega)) 16 _ _ (by omega) (by omega) (by omega) (by omega) (by omega) (by omega)
theorem or_c (y0 y2 : Int) (h0 : 0 ≤ y0 ∧ y0 ≤ 16777215) (h1 : 0 ≤ y2 ∧ y2 ≤ 255) : Go.bits .or .i64 (y0 * 256) y2 = y0 * 256 + y2 :=
  bits_join .i64 62 (by decide) (fun n a b => IntWalk.i64_in _ (by omega)) 8 _ _ (by omega) (by omega) (by omega) (by omega) (by omega) (by omega)
theorem enc4 (n : Int) (h0 : 0 ≤ n) (h1 : n < 4294967296) : encN 4 n = [n / 16777216, n / 65536 % 256, n / 256 % 256, n % 256] := by
  simp [encN, byt, List.range_succ]
  exact Int.emod_eq_of_lt (by omega) (by omega)
theorem bylit (w : World) (xs : List Int) (cs : Array Value) (n : Nat) (hc : cs.toList = xs.map (Value.int .u8)) (hn : n = xs.length) (h9 : n ≤ 1000) : (w.alloc (.cells cs 5)).ownsRow w.heap.size 5 1 (.slice (some ⟨w.heap.size, 0, none⟩) n n) n (xs.map (Value.int .u8)) := by
  have hs : cs.size = n := by rw [← Array.length_toList, hc, List.length_map, hn]
  refine ⟨by rw [List.length_map, hn, Nat.mul_one], .inr ⟨w.heap.size, n, cs, rfl, Nat.le_refl _, heap_alloc_new _ _, Nat.le_refl _, by unfold maxLen; omega, by omega, ?_⟩⟩
  rw [hc, Nat.mul_one, hn, List.take_of_length_le (by simp)]
set_option maxRecDepth 100000 in
set_option maxHeartbeats 8000000 in
theorem four_any (n : Int) (w : World) (h0 : 0 ≤ n) (h1 : n < 4294967296) : Calls Try.prog 48 #[.int .i64 n] w fun e w' => ∃ u, e = .returned u ∧ w'.ownsRow w.heap.size 5 1 u 4 ((encN 4 n).map (Value.int .u8)) ∧ Below w.heap.size w w' := by
  have HR := Lib.hid (bylit w (encN 4 n) #[.int .u8 (n / 16777216), .int .u8 (n / 65536 % 256), .int .u8 (n / 256 % 256), .int .u8 (n % 256)] 4 (by
    rw [enc4 n h0 h1]; rfl) (by rw [encN_len]) (by decide))
  have HB := Lib.hid (al w (.cells #[.int .u8 (n / 16777216), .int .u8 (n / 65536 % 256), .int .u8 (n / 256 % 256), .int .u8 (n % 256)] 5))
  go_enter Try.func48, Try.ntmps48
  go_wp2
  go_ret
  exact ⟨_, rfl, HR.out, HB.out⟩
set_option maxRecDepth 100000 in
set_option maxHeartbeats 8000000 in
theorem rnumber_any (v : Value) (l : List Int) (k : Nat) (w : World) (h : BysAt w v l) (hb : IsBy l) (hk : k + 4 ≤ l.length) (h9 : l.length ≤ 2000) : Calls Try.prog 41 #[v, .int .i64 k] w fun e w' => e = .returned (.int .i64 (num4 l k)) ∧ ∃ n, w' = w.drewN n := by
  obtain ⟨a, cap, rfl, hcp, hm, hc⟩ := h
  obtain ⟨b, off, rfl, hx⟩ := hc (by intro e; rw [e] at hk; simp at hk)
  have x0 := hx k _ (getD_of (show k < l.length by omega))
  have x1 := hx (k + 1) _ (getD_of (show k + 1 < l.length by omega))
  have x2 := hx (k + 2) _ (getD_of (show k + 2 < l.length by omega))
  have x3 := hx (k + 3) _ (getD_of (show k + 3 < l.length by omega))
  clear hm hc hx
  have e1 : wrap64 ((k : Int) + 1) = (k : Int) + 1 := IntWalk.wrap64_in _ (by omega)
  have u1 : ((k : Int) + 1).toNat = k + 1 := by omega
  have v1 : 0 ≤ (k : Int) + 1 := by omega
  have e2 : wrap64 ((k : Int) + 2) = (k : Int) + 2 := IntWalk.wrap64_in _ (by omega)
  have u2 : ((k : Int) + 2).toNat = k + 2 := by omega
  have v2 : 0 ≤ (k : Int) + 2 := by omega
  have e3 : wrap64 ((k : Int) + 3) = (k : Int) + 3 := IntWalk.wrap64_in _ (by omega)
  have u3 : ((k : Int) + 3).toNat = k + 3 := by omega
  have v3 : 0 ≤ (k : Int) + 3 := by omega
  have t0 : (k : Int) < l.length := by omega
  have t1 : (k : Int) + 1 < l.length := by omega
  have t2 : (k : Int) + 2 < l.length := by omega
  have t3 : (k : Int) + 3 < l.length := by omega
  have b0 := by_get hb k
  have b1 := by_get hb (k + 1)
  have b2 := by_get hb (k + 2)
  have b3 := by_get hb (k + 3)
  have HN := Lib.hid (show num4 l k = ((l.getD k 0 * 256 + l.getD (k + 1) 0) * 256 + l.getD (k + 2) 0) * 256 + l.getD (k + 3) 0 from rfl)
  generalize l.getD k 0 = y0 at *
  generalize l.getD (k + 1) 0 = y1 at *
  generalize l.getD (k + 2) 0 = y2 at *
  generalize l.getD (k + 3) 0 = y3 at *
  have z0 : b < w.heap.size := World.block_lt_of_cell? _ _ x0
  have q0 := or_a y0 y1 b0 b1
  have q1 : Go.bits .or .i64 (y0 * 16777216 + y1 * 65536) (y2 * 256) = y0 * 16777216 + y1 * 65536 + y2 * 256 := by
    have := or_b (y0 * 256 + y1) y2 (by omega) b2
    rwa [show (y0 * 256 + y1) * 65536 = y0 * 16777216 + y1 * 65536 by omega] at this
  have q2 : Go.bits .or .i64 (y0 * 16777216 + y1 * 65536 + y2 * 256) y3 = y0 * 16777216 + y1 * 65536 + y2 * 256 + y3 := by
    have := or_c (y0 * 65536 + y1 * 256 + y2) y3 (by omega) b3
    rwa [show (y0 * 65536 + y1 * 256 + y2) * 256 = y0 * 16777216 + y1 * 65536 + y2 * 256 by omega] at this
  have HV := Lib.hid (show y0 * 16777216 + y1 * 65536 + y2 * 256 + y3 = num4 l k by rw [HN.out]; omega)
  clear hcp
  go_enter Try.func41, Try.ntmps41
  go_wp2_with fail
  go_quiet (fail)
  go_wp2
  go_ret
  exact ⟨by rw [HV.out]; rfl, _, rfl⟩
theorem enc2 (n : Int) (h0 : 0 ≤ n) (h1 : n < 65536) : encN 2 n = [n / 256, n % 256] := by
  simp [encN, byt, List.range_succ]
  exact Int.emod_eq_of_lt (by omega) (by omega)
set_option maxRecDepth 100000 in
set_option maxHeartbeats 8000000 in
theorem rsum2_any (v : Value) (l : List Int) (w : World) (h : BysAt w v l) (hb : IsBy l) (h9 : l.length ≤ 2000) : Calls Try.prog 49 #[v] w fun e w' => ∃ u, e = .returned u ∧ w'.ownsRow w.heap.size 5 1 u 2 ((encN 2 (sumL l % 65521)).map (Value.int .u8)) ∧ Below w.heap.size w w' := by
  have HL := Lib.hid h
  obtain ⟨a, cap, rfl, -, -, -⟩ := h
  have HBY := Lib.hid hb
  have H9 := Lib.hid h9
  clear hb
  go_enter Try.func49, Try.ntmps49
  go_wp2_with fail
  go_loopw [3, 4] (fun sv iv wr => ∃ k : Nat, k ≤ l.length ∧ iv = .int .i64 k ∧ sv = .int .i64 (sumL (l.take k)) ∧ Hid (w = wr)) (fun _ iv _ => l.length - (intOf iv).toNat)
  case atStart => exact ⟨0, by omega, rfl, by simp [sumL], Lib.hid rfl⟩
  case round =>
    obtain ⟨k, hk, rfl, rfl, HW⟩ := hrel
    obtain rfl := HW.out
    clear HW
    have hs := sumL_bd (l.take k) (fun x hx => HBY.out x (List.mem_of_mem_take hx))
    have hlk : (l.take k).length ≤ 2000 := by rw [List.length_take]; omega
    by_cases hlt : k < l.length
    · obtain ⟨a1, c1, hv1, -, -, hcs1⟩ := HL.out
      obtain ⟨rfl, rfl⟩ : a = a1 ∧ cap = c1 := by simpa using hv1
      obtain ⟨b1, o1, rfl, hx1⟩ := hcs1 (by intro e; rw [e] at hlt; simp at hlt)
      have y0 := hx1 k _ (getD_of hlt)
      have yb := by_get HBY.out k
      have HT := Lib.hid (show sumL (l.take (k + 1)) = sumL (l.take k) + l.getD k 0 by rw [List.take_succ_eq_append_getElem hlt, sumL_snoc]; simp [hlt])
      obtain ⟨x, hx⟩ : ∃ x, l.getD k 0 = x := ⟨_, rfl⟩
      rw [hx] at y0 yb HT
      obtain ⟨s, hss⟩ : ∃ s, sumL (l.take k) = s := ⟨_, rfl⟩
      rw [hss] at hs HT ⊢
      have hw : wrap64 (s + x) = s + x := IntWalk.wrap64_in _ (by omega)
      have hw2 : wrap64 x = x := IntWalk.wrap64_in _ (by omega)
      replace hs := Lib.hid hs
      clear hx hss hcs1 hx1 hv1 hlk yb
      go_wp2
      go_roundw
      case rel => exact ⟨k + 1, hlt, by go_num, by rw [HT.out, hw], Lib.hid trivial⟩
      case measure => simp [intOf]; omega
    · obtain rfl : k = l.length := by omega
      rw [List.take_of_length_le (Nat.le_refl _)] at hs ⊢
      obtain ⟨s, hss⟩ : ∃ s, sumL l = s := ⟨_, rfl⟩
      rw [hss] at hs ⊢
      have h0 : 0 ≤ s := by omega
      obtain ⟨m, hm⟩ : ∃ m, s % 65521 = m := ⟨_, rfl⟩
      have hm0 : 0 ≤ m := by rw [← hm]; exact Int.emod_nonneg _ (by decide)
      have hm1 : m < 65521 := by rw [← hm]; exact Int.emod_lt_of_pos _ (by decide)
      have ht : s.tmod 65521 = m := by rw [Int.tmod_eq_emod_of_nonneg h0]; exact hm
      have HR := Lib.hid (bylit w (encN 2 m) #[.int .u8 (m / 256), .int .u8 (m % 256)] 2 (by rw [enc2 m hm0 (by omega)]; rfl) (by rw [encN_len]) (by decide))
      have HB := Lib.hid (al w (.cells #[.int .u8 (m / 256), .int .u8 (m % 256)] 5))
      have HE := Lib.hid (show sumL l % 65521 = m by rw [hss]; exact hm)
      have q1 : m / 256 % 256 = m / 256 := Int.emod_eq_of_lt (by omega) (by omega)
      clear hs hss hm hlt h9 hk hlk
      go_wp2
      go_ret
      exact ⟨_, rfl, by rw [HE.out]; exact HR.out, HB.out⟩
set_option maxRecDepth 100000 in
set_option maxHeartbeats 8000000 in
theorem rfresh_any (w : World) : Calls Try.prog 26 #[] w fun e w' => ∃ s, e = .returned (.agg #[.int .i64 (-1), s]) ∧ w'.ownsRow w.heap.size 4 1 s 16 ((List.replicate 16 false).map Value.bool) ∧ Below w.heap.size w w' := by
  have hmk : ∀ w, (Instr.makeSlice 26 (.int .i64 16) (.int .i64 16)).run Try.prog w = .ok (.slice (some ⟨w.heap.size, 0, none⟩) 16 16) (w.alloc (.cells ((List.replicate 16 false).map Value.bool).toArray 4)) := fun _ => by kernel_rfl
  have HR := Lib.hid (show ((w.alloc (.cells #[.int .i64 (-1), .slice (some ⟨w.heap.size + 1, 0, none⟩) 16 16] 28)).alloc (.cells #[.bool false, .bool false, .bool false, .bool false, .bool false, .bool false, .bool false, .bool false, .bool false, .bool false, .bool false, .bool false, .bool false, .bool false, .bool false, .bool false] 4)).ownsRow w.heap.size 4 1 (.slice (some ⟨w.heap.size + 1, 0, none⟩) 16 16) 16 ((List.replicate 16 false).map Value.bool) from
    ⟨rfl, .inr ⟨w.heap.size + 1, 16, _, rfl, Nat.le_succ _, (by have h := heap_alloc_new (w.alloc (.cells #[.int .i64 (-1), .slice (some ⟨w.heap.size + 1, 0, none⟩) 16 16] 28)) (.cells #[.bool false, .bool false, .bool false, .bool false, .bool false, .bool false, .bool false, .bool false, .bool false, .bool false, .bool false, .bool false, .bool false, .bool false, .bool false, .bool false] 4); simpa using h), by omega, by unfold maxLen; omega, rfl, rfl⟩⟩)
  have HB := Lib.hid (al2 (w := w) (o1 := (.cells #[.int .i64 (-1), .slice (some ⟨w.heap.size + 1, 0, none⟩) 16 16] 28)) (o2 := (.cells #[.bool false, .bool false, .bool false, .bool false, .bool false, .bool false, .bool false, .bool false, .bool false, .bool false, .bool false, .bool false, .bool false, .bool false, .bool false, .bool false] 4)))
  go_enter Try.func26, Try.ntmps26
  go_wp2
  exact bodyPost_ret (v := .agg #[.int .i64 (-1), .slice (some ⟨w.heap.size + 1, 0, none⟩) 16 16]) (by simp [results, Try.results26, go_sem]) rfl ⟨_, rfl, HR.out, HB.out⟩
end Go.Proofs.Ytebeaekiaikgmaa
