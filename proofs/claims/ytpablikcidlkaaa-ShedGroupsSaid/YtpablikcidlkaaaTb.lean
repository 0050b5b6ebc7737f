/- Shedding: the sum of those who are kept; the law of limits. -/
import Derived.Test.YtpablikcidlkaaaTa
namespace Go.Proofs.Ytpablikcidlkaaa
open Go.RowKit

theorem sumK_in (l : List (Int × Int)) (bf : List Bool) (hp : ∀ i, 0 ≤ pow l i ∧ pow l i ≤ 1000000) : ∀ n, 0 ≤ sumK l bf n ∧ sumK l bf n ≤ n * 1000000
  | 0 => by simp [sumK]
  | n + 1 => by
    have h1 := sumK_in l bf hp n
    have h2 := hp n
    unfold sumK
    split <;> omega
theorem totK_in (l : List (Int × Int)) (hp : ∀ i, 0 ≤ pow l i ∧ pow l i ≤ 1000000) : ∀ n, 0 ≤ totK l n ∧ totK l n ≤ n * 1000000
  | 0 => by simp [totK]
  | n + 1 => by
    have h1 := totK_in l hp n
    have h2 := hp n
    unfold totK
    omega
set_option maxRecDepth 100000 in
set_option maxHeartbeats 4000000 in
theorem sum_any (v vb : Value) (l : List (Int × Int)) (bf : List Bool) (w : World) (h : ConsAt w v l) (hbf : BosAt w vb bf) (hn : bf.length = l.length) (h6 : l.length ≤ 60) (hp : ∀ i, 0 ≤ pow l i ∧ pow l i ≤ 1000000) :
    Calls Try.prog 17 #[v, vb] w fun e w' => e = .returned (.int .i64 (sumK l bf l.length)) ∧ w = w' := by
  have HP := Lib.hid hp
  obtain ⟨va, vc, rfl, -, -, hcs⟩ := h
  obtain ⟨ba, bc, rfl, -, -, hbs⟩ := hbf
  have HCS := Lib.hid hcs
  have HBS := Lib.hid hbs
  have hn1 : bf.length ≤ l.length := by omega
  have hn2 : l.length ≤ bf.length := by omega
  clear hp hcs hbs hn
  go_enter Try.func17, Try.ntmps17
  go_wp2_with fail
  go_loopw [5, 6] (fun sv iv wr => ∃ k : Nat, k ≤ l.length ∧ iv = .int .i64 k ∧ sv = .int .i64 (sumK l bf k) ∧ Hid (w = wr)) (fun _ iv _ => l.length - (intOf iv).toNat)
  case atStart => exact ⟨0, by omega, rfl, rfl, Lib.hid rfl⟩
  case round =>
    obtain ⟨k, hk, rfl, rfl, HW⟩ := hrel
    obtain rfl := HW.out
    clear HW
    by_cases hlt : k < l.length
    · have hlb : k < bf.length := by omega
      obtain ⟨b, off, rfl, hx⟩ := HCS.out (by intro e; rw [e] at hlt; simp at hlt)
      obtain ⟨xb, xo, rfl, hy⟩ := HBS.out (by intro e; rw [e] at hlb; simp at hlb)
      obtain ⟨x0, -⟩ := hx k _ (win_get (d := (0, 0)) hlt)
      have y0 := hy k _ (win_get (d := false) hlb)
      have hS := sumK_in l bf HP.out k
      have hpk := HP.out k
      have HSS := Lib.hid (show sumK l bf (k + 1) = sumK l bf k + (if bf.getD k false = true then pow l k else 0) from rfl)
      clear hx hy
      replace x0 : w.cell? ⟨b, off + k * 2, none⟩ = some (.int .i64 (pow l k)) := x0
      have t1 : (k : Int) < (l.length : Int) := by omega
      have t2 : (k : Int) < (bf.length : Int) := by omega
      have z1 : b < w.heap.size := World.block_lt_of_cell? _ _ x0
      have z2 : xb < w.heap.size := World.block_lt_of_cell? _ _ y0
      generalize sumK l bf k = S at *
      generalize pow l k = p at *
      generalize bf.getD k false = t at *
      obtain ⟨hS1, hS2⟩ := hS
      have hS3 : S ≤ 60000000 := by omega
      clear hS2
      cases t
      · go_wp2
        go_roundw
        case rel => exact ⟨k + 1, hlt, by go_num, by rw [HSS.out]; simp, Lib.hid trivial⟩
        case measure => simp [intOf]; omega
      · go_wp2
        go_roundw
        case rel => exact ⟨k + 1, hlt, by go_num, by rw [HSS.out]; simp, Lib.hid trivial⟩
        case measure => simp [intOf]; omega
    · obtain rfl : k = l.length := by omega
      have hS := sumK_in l bf HP.out l.length
      go_wp2
      go_ret
      exact ⟨rfl, rfl⟩
set_option maxRecDepth 100000 in
set_option maxHeartbeats 8000000 in
theorem limits_any (v : Value) (l : List (Int × Int)) (x : Int) (w : World) (h : ConsAt w v l) :
    Calls Try.prog 4 #[v, .int .i64 x] w fun e w' => e = .returned (.bool true) ∧ Below w.heap.size w w' := by
  have HL := Lib.hid h
  obtain ⟨va, vc, rfl, hml⟩ : ∃ a c, v = .slice a l.length c ∧ l.length ≤ maxLen := (by obtain ⟨a, c, e, _, hm, -⟩ := h; exact ⟨a, c, e, hm⟩)
  unfold maxLen at hml
  clear h
  cases hf : fineB l x
  · have HF := Lib.hid hf
    clear hf
    go_enter Try.func4, Try.ntmps4
    go_wp2_with fail
    refine (head_any _).mono ?_
    rintro e w1 ⟨rfl, b⟩
    replace HL := Lib.hid (HL.out.step b)
    have HB := Lib.hid b
    clear b
    go_wp2_with fail
    refine (fine_q _ l x _ HL.out _ HF.out).mono ?_
    rintro e w2 ⟨rfl, b⟩
    replace HB := Lib.hid (keep2 b HB.out)
    clear b
    go_wp2
    go_ret
    exact ⟨by simp, HB.out⟩
  · have HF := Lib.hid hf
    obtain ⟨f1, f2, f3⟩ := fine_parts hf
    have hx := wiB_iff.1 f3
    have HP := Lib.hid (acB_pow f2)
    have HS1 := Lib.hid (show (acB l && wiB x 1000000000) = true by rw [f2, f3]; rfl)
    have hle := sum_le l x hx.1
    have HALL := Lib.hid (all_is l x hx.1 (fun i => (acB_pow f2 i).1))
    have hsi := sumK_in l (kpL l fun _ => x) (acB_pow f2) l.length
    have HKL := Lib.hid (kp_len l fun _ => x)
    clear hf f2 f3
    obtain ⟨K, hK⟩ : ∃ K, (kpL l fun _ => x) = K := ⟨_, rfl⟩
    rw [hK] at hle HALL hsi HKL
    have HK := Lib.hid hK
    obtain ⟨S, hS⟩ : ∃ S, sumK l K l.length = S := ⟨_, rfl⟩
    rw [hS] at hle hsi
    have HS := Lib.hid hS
    have hKl1 : K.length ≤ l.length := by rw [HKL.out]; exact Nat.le_refl _
    have hKl2 : l.length ≤ K.length := by rw [HKL.out]; exact Nat.le_refl _
    have g0 : ((K.length : Int) != (l.length : Int)) = false := by simp; omega
    have g3 : decide (x < S) = false := by simp; omega
    have g4 : ¬ x < S := by omega
    clear hK hS
    go_enter Try.func4, Try.ntmps4
    go_wp2_with fail
    refine (head_any _).mono ?_
    rintro e w1 ⟨rfl, b⟩
    replace HL := Lib.hid (HL.out.step b)
    have HB := Lib.hid b
    clear b
    go_wp2_with fail
    refine (fine_q _ l x _ HL.out _ HF.out).mono ?_
    rintro e w2 ⟨rfl, b⟩
    replace HL := Lib.hid (HL.out.step b)
    replace HB := Lib.hid (keep2 b HB.out)
    clear b
    go_wp2_with fail
    refine (keep_e _ l x _ HL.out true K HS1.out HK.out).mono ?_
    rintro e w3 ⟨u3, rfl, r, b⟩
    replace HL := Lib.hid (HL.out.step b)
    replace HB := Lib.hid (keep2 b HB.out)
    have HR := Lib.hid r
    obtain ⟨ka, kc, rfl, -⟩ := r
    clear b
    go_wp2_with fail
    refine (sum_any _ _ l K _ HL.out HR.out HKL.out f1 HP.out).mono ?_
    rintro e w4 ⟨rfl, rfl⟩
    rw [HS.out]
    go_wp2_with fail
    go_loopw [8, 9, 10] (fun av tv iv wr => ∃ k : Nat, k ≤ l.length ∧ iv = .int .i64 k ∧ av = .bool (allK K k) ∧ tv = .int .i64 (totK l k) ∧ Hid (w3 = wr)) (fun _ _ iv _ => l.length - (intOf iv).toNat)
    case atStart => exact ⟨0, by omega, rfl, rfl, rfl, Lib.hid rfl⟩
    case round =>
      obtain ⟨k, hk, rfl, rfl, rfl, HW⟩ := hrel
      obtain rfl := HW.out
      clear HW
      by_cases hlt : k < l.length
      · have hlb : k < K.length := by omega
        obtain ⟨a2, c2, hva, -, -, hcs⟩ := HL.out
        obtain ⟨a3, c3, hvb, -, -, hbs⟩ := HR.out
        obtain ⟨rfl, rfl⟩ : va = a2 ∧ vc = c2 := by simpa using hva
        obtain ⟨rfl, rfl⟩ : ka = a3 ∧ kc = c3 := by simpa using hvb
        obtain ⟨b, off, rfl, hxx⟩ := hcs (by intro e; rw [e] at hlt; simp at hlt)
        obtain ⟨xb, xo, rfl, hy⟩ := hbs (by intro e; rw [e] at hlb; simp at hlb)
        obtain ⟨x0, -⟩ := hxx k _ (win_get (d := (0, 0)) hlt)
        have y0 := hy k _ (win_get (d := false) hlb)
        have hT := totK_in l HP.out k
        have hpk := HP.out k
        have HTT := Lib.hid (show totK l (k + 1) = totK l k + pow l k from rfl)
        have HAA := Lib.hid (show allK K (k + 1) = (allK K k && K.getD k false) from rfl)
        clear hxx hy hcs hbs hva hvb
        replace x0 : w3.cell? ⟨b, off + k * 2, none⟩ = some (.int .i64 (pow l k)) := x0
        have t1 : (k : Int) < (l.length : Int) := by omega
        have t2 : (k : Int) < (K.length : Int) := by omega
        have z1 : b < w3.heap.size := World.block_lt_of_cell? _ _ x0
        have z2 : xb < w3.heap.size := World.block_lt_of_cell? _ _ y0
        generalize totK l k = T at *
        generalize allK K k = A at *
        generalize pow l k = p at *
        generalize K.getD k false = t at *
        obtain ⟨hT1, hT2⟩ := hT
        have hT3 : T ≤ 60000000 := by omega
        clear hT2
        cases A <;> cases t
        all_goals
          go_wp2
          go_roundw
          case rel => exact ⟨k + 1, hlt, by go_num, by rw [HAA.out]; rfl, by rw [HTT.out], Lib.hid trivial⟩
          case measure => simp [intOf]; omega
      · obtain rfl : k = l.length := by omega
        have hT := totK_in l HP.out l.length
        have hall := HALL.out
        clear HALL
        generalize totK l l.length = T at *
        generalize allK K l.length = A at *
        by_cases hc : T ≤ x
        · rw [decide_eq_true hc] at hall
          subst hall
          have hcb : decide (T ≤ x) = true := decide_eq_true hc
          go_wp2
          go_ret
          exact ⟨by simp, HB.out⟩
        · rw [decide_eq_false hc] at hall
          subst hall
          have hcb : decide (T ≤ x) = false := decide_eq_false hc
          go_wp2
          go_ret
          exact ⟨by simp, HB.out⟩
end Go.Proofs.Ytpablikcidlkaaa
