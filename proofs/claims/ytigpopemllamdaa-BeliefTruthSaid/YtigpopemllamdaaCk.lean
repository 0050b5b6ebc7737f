/- Beliefs: the device's states: 'made', 'Done', 'Top'. -/
import Derived.Test.YtigpopemllamdaaCi
import Derived.Deep.CutRange
namespace Go.Proofs.Ytigpopemllamdaa
open Go.RowKit

theorem bit_mod (D k : Nat) : (((D : Int) / 2 ^ k).tmod 2 == 1) = D.testBit k := by
  have h : ((D : Int) / 2 ^ k) = ((D / 2 ^ k : Nat) : Int) := by push_cast; rfl
  rw [h, Nat.testBit_eq_decide_div_mod_eq]
  generalize D / 2 ^ k = q
  rw [Int.tmod_eq_emod_of_nonneg (by omega), Bool.eq_iff_iff, beq_iff_eq, decide_eq_true_eq]
  omega
set_option maxRecDepth 100000 in
set_option maxHeartbeats 8000000 in
theorem done_any (v c : Value) (D k : Nat) (hD : D ≤ 2000000) (hk : k ≤ 40) (w : World) :
    Calls Try.prog 28 #[.agg #[v, .int .i64 (D : Int), c], .int .i64 (k : Int)] w fun e w' => e = .returned (.bool (D.testBit k)) ∧ Below w.heap.size w w' := by
  have HB := Lib.hid (al w (.cells #[v, .int .i64 (D : Int), c] 44))
  have h1 : (0 : Int) ≤ (k : Int) := by omega
  have h2 : (k : Int) ≤ 40 := by omega
  have h3 : (D : Int) ≤ 2000000 := by omega
  have h4 : (0 : Int) ≤ (D : Int) := by omega
  have HM := Lib.hid (bit_mod D k)
  go_enter Try.func28, Try.ntmps28
  go_wp2
  rw [HM.out]
  go_ret
  exact ⟨rfl, HB.out⟩
set_option maxRecDepth 100000 in
set_option maxHeartbeats 8000000 in
theorem made_any (a b c d n : Int) (ha : -1 ≤ a ∧ a ≤ 1000000000) (hb : 0 ≤ b ∧ b ≤ 1000000000) (hn : 0 ≤ n ∧ n ≤ 100000) (w : World) :
    Calls Try.prog 26 #[.agg #[.int .i64 a, .int .i64 b, .int .i64 c, .int .i64 d], .int .i64 n] w fun e w' => ∃ A B E : Int, e = .returned (.agg #[.int .i64 A, .int .i64 B, .int .i64 0, .int .i64 E]) ∧ a < A ∧ b ≤ B ∧ Below w.heap.size w w' := by
  obtain ⟨h1, h2⟩ := ha
  obtain ⟨h3, h4⟩ := hb
  obtain ⟨h5, h6⟩ := hn
  have w1 : wrap64 (a + 1) = a + 1 := IntWalk.wrap64_in _ (by omega)
  have w2 : wrap64 (a + 1 + n % 9) = a + 1 + n % 9 := IntWalk.wrap64_in _ (by omega)
  have w3 : wrap64 (b + n / 9 % 8 / 7) = b + n / 9 % 8 / 7 := IntWalk.wrap64_in _ (by omega)
  go_enter Try.func26, Try.ntmps26
  go_wp2
  exact bodyPost_ret (v := .agg #[.int .i64 (a + 1 + n % 9), .int .i64 (b + n / 9 % 8 / 7), .int .i64 0, .int .i64 (n / 72 % 4)]) (by simp [results, Try.results26, go_sem]) rfl ⟨_, _, _, rfl, by omega, by omega, by first | exact al2 | exact (al _ _)⟩
/-- The greatest number that a device has executed or closed. -/
def tpf (D : Nat) (L : List Od) (c : Int) (n : Nat) : Int := (List.range n).foldl (fun t i => if D.testBit i = true then max t (L.getD i zO).a else t) c
theorem tpf_succ (D : Nat) (L : List Od) (c : Int) (n : Nat) : tpf D L c (n + 1) = if D.testBit n = true then max (tpf D L c n) (L.getD n zO).a else tpf D L c n := by
  unfold tpf; rw [List.range_succ, List.foldl_append]; rfl
theorem tpf_prop (D : Nat) (L : List Od) (c : Int) : ∀ n, c ≤ tpf D L c n ∧ (∀ i, i < n → D.testBit i = true → (L.getD i zO).a ≤ tpf D L c n) ∧ (tpf D L c n = c ∨ ∃ i, i < n ∧ D.testBit i = true ∧ tpf D L c n = (L.getD i zO).a) := by
  intro n
  induction n with
  | zero => exact ⟨by simp [tpf], fun i h => absurd h (by omega), .inl (by simp [tpf])⟩
  | succ n ih =>
    obtain ⟨h1, h2, h3⟩ := ih
    rw [tpf_succ]
    by_cases hb : D.testBit n = true
    · rw [if_pos hb]
      refine ⟨by omega, fun i hi hd => ?_, ?_⟩
      · by_cases e : i = n
        · subst e; omega
        · have := h2 i (by omega) hd; omega
      · by_cases hm : tpf D L c n ≤ (L.getD n zO).a
        · right; exact ⟨n, by omega, hb, by omega⟩
        · rcases h3 with h3 | ⟨i, hi, hd, h3⟩
          · left; omega
          · right; exact ⟨i, by omega, hd, by omega⟩
    · rw [if_neg hb]
      refine ⟨h1, fun i hi hd => ?_, ?_⟩
      · by_cases e : i = n
        · subst e; exact absurd hd hb
        · exact h2 i (by omega) hd
      · rcases h3 with h3 | ⟨i, hi, hd, h3⟩
        · exact .inl h3
        · exact .inr ⟨i, by omega, hd, h3⟩
set_option maxRecDepth 100000 in
set_option maxHeartbeats 8000000 in
theorem top_any (s v : Value) (L : List Od) (D : Nat) (c : Int) (hD : D ≤ 2000000) (hl : L.length ≤ 20) (w : World) (h : OdsAt w s L) :
    Calls Try.prog 29 #[s, .agg #[v, .int .i64 (D : Int), .int .i64 c]] w fun e w' => e = .returned (.int .i64 (tpf D L c L.length)) ∧ Below w.heap.size w w' := by
  have HL := Lib.hid h
  obtain ⟨sa, sc, rfl, -, -, -⟩ := h
  have HB := Lib.hid (al w (.cells #[v, .int .i64 (D : Int), .int .i64 c] 44))
  have HC := Lib.hid (Cs.new w w.heap.size #[v, .int .i64 (D : Int), .int .i64 c] 44 rfl)
  have H9 := Lib.hid hl
  have hm : L.length ≤ 1000 := by omega
  clear hl
  go_enter Try.func29, Try.ntmps29
  go_wp2_with fail
  go_loopw [5, 6] (fun tv iv wr => ∃ k : Nat, k ≤ L.length ∧ iv = .int .i64 k ∧ tv = .int .i64 (tpf D L c k) ∧ Hid (Cs wr w.heap.size #[v, .int .i64 (D : Int), .int .i64 c]) ∧ Hid (Below w.heap.size w wr)) (fun _ iv _ => L.length - (intOf iv).toNat)
  case atStart => exact ⟨0, by omega, rfl, rfl, HC, HB⟩
  case round =>
    obtain ⟨k, hk, rfl, rfl, HC1, HW⟩ := hrel
    have c0 := HC1.out.c 0 rfl
    have c1 := HC1.out.c 1 rfl
    have c2 := HC1.out.c 2 rfl
    have cz := HC1.out.2.2
    by_cases hlt : k < L.length
    · obtain ⟨a1, cc1, hv1, -, -, hcs1⟩ := HL.out.step HW.out
      obtain ⟨rfl, rfl⟩ : sa = a1 ∧ sc = cc1 := by simpa using hv1
      obtain ⟨b1, o1, rfl, hx1⟩ := hcs1 (by intro e; rw [e] at hlt; simp at hlt)
      obtain ⟨y0, -, -, -⟩ := hx1 k _ (od_get hlt)
      have t1 : (k : Int) < (L.length : Int) := by omega
      have HS := Lib.hid (tpf_succ D L c k)
      have HK := Lib.hid (show k ≤ 40 by have := H9.out; omega)
      clear hcs1 hx1 hv1
      generalize tpf D L c k = T at *
      obtain ⟨xa, hxa⟩ : ∃ z, (L.getD k zO).a = z := ⟨_, rfl⟩
      rw [hxa] at y0 HS
      clear hxa
      cases hb : D.testBit k
      · have HF := Lib.hid (show tpf D L c (k + 1) = T by rw [HS.out, hb]; rfl)
        go_wp2_with fail
        refine (done_any v _ D k hD HK.out _).mono ?_
        rintro e w2 ⟨rfl, b⟩
        rw [hb]
        have HC2 := Lib.hid (HC1.out.step b)
        have HW2 := Lib.hid (keep2 b HW.out)
        clear b c0 c1 c2 cz y0
        go_wp2
        go_roundw
        case rel => exact ⟨k + 1, hlt, by go_num, by rw [HF.out], HC2, HW2⟩
        case measure => simp [intOf]; omega
      · go_wp2_with fail
        refine (done_any v _ D k hD HK.out _).mono ?_
        rintro e w2 ⟨rfl, b⟩
        rw [hb]
        have HC2 := Lib.hid (HC1.out.step b)
        have HW2 := Lib.hid (keep2 b HW.out)
        have y0' := keep1 b y0
        have yz := World.block_lt_of_cell? _ _ y0'
        clear b c0 c1 c2 cz y0
        have HF := Lib.hid (show tpf D L c (k + 1) = max T xa by rw [HS.out, hb, if_pos rfl])
        go_wp2
        go_roundw
        case rel => exact ⟨k + 1, hlt, by go_num, by rw [HF.out], HC2, HW2⟩
        case measure => simp [intOf]; omega
    · obtain rfl : k = L.length := by omega
      go_wp2
      go_ret
      exact ⟨rfl, HW.out⟩
end Go.Proofs.Ytigpopemllamdaa
