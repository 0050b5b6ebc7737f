/- Shedding: the law of steps. -/
import Derived.Test.YtpablikcidlkaaaTf
namespace Go.Proofs.Ytpablikcidlkaaa
open Go.RowKit

theorem bos_of_row {w : World} {base n : Nat} {v : Value} {xs : List Bool} (hn : n = xs.length) (h : w.ownsRow base 4 1 v n (xs.map Value.bool)) : BosAt w v xs := by
  subst hn
  rcases h.2 with ⟨rfl, hn⟩ | ⟨g, cap, cur, rfl, hbg, hg, hnc, hcm, hcur, htake⟩
  · have : xs = [] := by simpa using hn
    subst this
    exact bos_nil _
  · have hc := h.cells (g := g) rfl
    refine ⟨_, cap, rfl, by omega, by omega, fun _ => ⟨g, 0, rfl, fun i x hi => ?_⟩⟩
    have := hc i (.bool x) (by rw [List.getElem?_map, hi]; rfl)
    rwa [Go.WideShapes.add_plain] at this
theorem row_start (w : World) (base : Nat) (hb : base ≤ w.heap.size) : (w.alloc (.cells #[] 4)).ownsRow base 4 1 (.slice (some ⟨w.heap.size, 0, none⟩) 0 0) 0 [] :=
  ⟨rfl, .inr ⟨w.heap.size, 0, #[], rfl, hb, World.alloc_heap_new w _, by omega, by decide, rfl, rfl⟩⟩
set_option maxRecDepth 100000 in
set_option maxHeartbeats 8000000 in
theorem steps_any (v : Value) (l : List (Int × Int)) (vb : Value) (bf : List Bool) (x m : Int) (w : World) (h : ConsAt w v l) (hbf : BosAt w vb bf) (hm0 : 0 ≤ m) (hm1 : m ≤ 4294967295) :
    Calls Try.prog 7 #[v, vb, .int .i64 x, .int .u32 m] w fun e w' => e = .returned (.bool true) ∧ Below w.heap.size w w' := by
  have HL := Lib.hid h
  have HBF := Lib.hid hbf
  obtain ⟨va, vc, rfl, hml⟩ : ∃ a c, v = .slice a l.length c ∧ l.length ≤ maxLen := (by obtain ⟨a, c, e, _, hm, -⟩ := h; exact ⟨a, c, e, hm⟩)
  obtain ⟨ba, bc, rfl, hbl⟩ : ∃ a c, vb = .slice a bf.length c ∧ bf.length ≤ maxLen := (by obtain ⟨a, c, e, _, h, -⟩ := hbf; exact ⟨a, c, e, h⟩)
  unfold maxLen at hml hbl
  clear h hbf
  obtain ⟨M, hM⟩ : ∃ M, m.tmod 1000000001 = M := ⟨_, rfl⟩
  have hM0 : 0 ≤ M := by rw [← hM, Int.tmod_eq_emod_of_nonneg hm0]; omega
  have hM1 : M ≤ 1000000000 := by rw [← hM, Int.tmod_eq_emod_of_nonneg hm0]; omega
  cases hf : fineB l x
  · have HF := Lib.hid hf
    clear hf hM
    go_enter Try.func7, Try.ntmps7
    go_wp2_with fail
    refine (head_any _).mono ?_
    rintro e w1 ⟨rfl, b⟩
    replace HL := Lib.hid (HL.out.step b)
    have HB := Lib.hid b
    clear b
    go_wp2_with fail
    refine (fine_q _ l x _ HL.out _ HF.out).mono ?_
    rintro e w2 ⟨rfl, b⟩
    replace HB := Lib.hid (keep2 b HB.out)
    clear b
    go_wp2
    go_ret
    exact ⟨by simp, HB.out⟩
  · have HF := Lib.hid hf
    by_cases hn : bf.length = l.length
    · have g1 : ((bf.length : Int) != (l.length : Int)) = false := by simp; omega
      obtain ⟨f1, f2, f3⟩ := fine_parts hf
      have hx := wiB_iff.1 f3
      have HP := Lib.hid (acB_pow f2)
      have HS0 := Lib.hid (show (acB l && wiB x 1000000000) = true by rw [f2, f3]; rfl)
      have HS1 := Lib.hid (show stB l bf x 0 = true by unfold stB; rw [f2, f3]; simp [hn, wiB])
      have HS2 := Lib.hid (show stB l (List.replicate l.length true) x M = true by unfold stB; rw [f2, f3, wiB_iff.2 ⟨hM0, hM1⟩]; simp)
      have HS3 := Lib.hid (show stB l bf x M = true by unfold stB; rw [f2, f3, wiB_iff.2 ⟨hM0, hM1⟩]; simp [hn])
      have h0 := step_zero l bf x
      have ha := step_all l x M
      have hsl := sum_le2 l bf x M hx.1 hM0
      have hnn := fun h i hi hb => none_new l bf x M h HP.out i hi hb
      have hsi := sumK_in l (kpL l (lim2 bf x M)) HP.out l.length
      obtain ⟨K0, hK0⟩ : ∃ K, (kpL l fun _ => x) = K := ⟨_, rfl⟩
      obtain ⟨K3, hK3⟩ : ∃ K, kpL l (lim2 bf x M) = K := ⟨_, rfl⟩
      rw [hK0] at h0 ha
      rw [hK3] at hsl hnn hsi
      have HK0 := Lib.hid hK0
      have HK3 := Lib.hid hK3
      have H0 := Lib.hid h0
      have HA := Lib.hid ha
      have HNN := Lib.hid hnn
      have HN3 := Lib.hid (show K3.length = l.length by rw [← hK3]; exact kp_len _ _)
      have g2 : ((K3.length : Int) != (l.length : Int)) = false := by have := HN3.out; simp; omega
      have hk3 : K3.length ≤ l.length := by rw [HN3.out]; exact Nat.le_refl _
      have hk3b : l.length ≤ bf.length := by omega
      obtain ⟨S, hS⟩ : ∃ S, sumK l K3 l.length = S := ⟨_, rfl⟩
      rw [hS] at hsl hsi
      have HS := Lib.hid hS
      have g3 : decide (x < S) = false := by simp; omega
      have g4 : ¬ x < S := by omega
      clear hf f2 f3 h0 ha hK0 hK3 hnn hS
      replace hn := Lib.hid hn
      obtain ⟨i0, hi, hz0, hz1, hz2⟩ := info_parts info4
      go_enter Try.func7, Try.ntmps7
      go_wp2_with fail
      refine (head_any _).mono ?_
      rintro e w1 ⟨rfl, b⟩
      replace HL := Lib.hid (HL.out.step b)
      replace HBF := Lib.hid (HBF.out.step b)
      have HB := Lib.hid b
      clear b
      go_wp2_with fail
      refine (fine_q _ l x _ HL.out _ HF.out).mono ?_
      rintro e w2 ⟨rfl, b⟩
      replace HL := Lib.hid (HL.out.step b)
      replace HBF := Lib.hid (HBF.out.step b)
      replace HB := Lib.hid (keep2 b HB.out)
      clear b
      go_wp2_with fail
      go_loopw [11, 12] (fun rv iv wr => ∃ k : Nat, k ≤ l.length ∧ iv = .int .i64 k ∧ Hid (wr.ownsRow w2.heap.size 4 1 rv k ((List.replicate k true).map Value.bool)) ∧ Hid (Below w2.heap.size w2 wr)) (fun _ iv _ => l.length - (intOf iv).toNat)
      case atStart => exact ⟨0, by omega, rfl, Lib.hid (row_start w2 _ (Nat.le_refl _)), Lib.hid (al w2 _)⟩
      case round =>
        obtain ⟨k, hk, rfl, HR, HW⟩ := hrel
        have hsz := HW.out.size
        by_cases hlt : k < l.length
        · go_wp2_with (at_builtin; refine wpList_append_own _ rfl _ _ 23 rfl w2.heap.size 4 i0 _ 1 1 Try.underlying23 hi hz0 hz1 hz2 rfl (by decide) _ _ _ rfl (HR.out.alloc _) ⟨wr.heap.size, 0, none⟩ 1 1 [.bool _] rfl rfl (cell_one_new _ _ _) (by simp [Value.oneCell']) (by unfold maxLen; omega) (by omega) (by simp; omega) ?_; intro v' w9 hown hgrow _; have HR2 := Lib.hid hown; have HB2 := Lib.hid (below_own (Nat.le_refl _) HW.out HR.out hgrow); clear hown hgrow)
          go_roundw
          case rel => exact ⟨k + 1, hlt, by go_num, by rw [List.replicate_succ', List.map_append]; exact HR2, HB2⟩
          case measure => simp [intOf]; omega
        · obtain rfl : k = l.length := by omega
          have HT := Lib.hid (bos_of_row (by simp) HR.out)
          replace HL := Lib.hid (HL.out.step HW.out)
          replace HBF := Lib.hid (HBF.out.step HW.out)
          replace HB := Lib.hid (keep2 HW.out HB.out)
          clear HR HW
          go_wp2_with fail
          refine (keep_e _ l x _ HL.out true K0 HS0.out HK0.out).mono ?_
          rintro e w3 ⟨u3, rfl, r, b⟩
          replace HL := Lib.hid (HL.out.step b)
          replace HBF := Lib.hid (HBF.out.step b)
          replace HT := Lib.hid (HT.out.step b)
          replace HB := Lib.hid (keep2 b HB.out)
          have R0 := Lib.hid r
          clear b r
          go_wp2_with fail
          refine (step_e _ _ l bf x 0 _ HL.out HBF.out true K0 HS1.out H0.out).mono ?_
          rintro e w4 ⟨u4, rfl, r, b⟩
          replace HL := Lib.hid (HL.out.step b)
          replace HBF := Lib.hid (HBF.out.step b)
          replace HT := Lib.hid (HT.out.step b)
          replace HB := Lib.hid (keep2 b HB.out)
          replace R0 := Lib.hid (R0.out.step b)
          have R1 := Lib.hid r
          clear b r
          go_wp2_with fail
          refine (step_e _ _ l (List.replicate l.length true) x M _ HL.out HT.out true K0 HS2.out HA.out).mono ?_
          rintro e w5 ⟨u5, rfl, r, b⟩
          replace HL := Lib.hid (HL.out.step b)
          replace HBF := Lib.hid (HBF.out.step b)
          replace HB := Lib.hid (keep2 b HB.out)
          replace R0 := Lib.hid (R0.out.step b)
          replace R1 := Lib.hid (R1.out.step b)
          have R2 := Lib.hid r
          clear b r
          go_wp2_with fail
          refine (step_e _ _ l bf x M _ HL.out HBF.out true K3 HS3.out HK3.out).mono ?_
          rintro e w6 ⟨u6, rfl, r, b⟩
          replace HL := Lib.hid (HL.out.step b)
          replace HBF := Lib.hid (HBF.out.step b)
          replace HB := Lib.hid (keep2 b HB.out)
          replace R0 := Lib.hid (R0.out.step b)
          replace R1 := Lib.hid (R1.out.step b)
          replace R2 := Lib.hid (R2.out.step b)
          have R3 := Lib.hid r
          obtain ⟨ka, kc, rfl, -⟩ := r
          clear b
          go_wp2_with fail
          refine (same_e _ _ _ _ _ R0.out R1.out true (by simp)).mono ?_
          rintro e w7 ⟨rfl, b⟩
          replace HL := Lib.hid (HL.out.step b)
          replace HBF := Lib.hid (HBF.out.step b)
          replace HB := Lib.hid (keep2 b HB.out)
          replace R0 := Lib.hid (R0.out.step b)
          replace R2 := Lib.hid (R2.out.step b)
          replace R3 := Lib.hid (R3.out.step b)
          clear b
          go_wp2_with fail
          refine (same_e _ _ _ _ _ R0.out R2.out true (by simp)).mono ?_
          rintro e w8 ⟨rfl, b⟩
          replace HL := Lib.hid (HL.out.step b)
          replace HBF := Lib.hid (HBF.out.step b)
          replace HB := Lib.hid (keep2 b HB.out)
          replace R3 := Lib.hid (R3.out.step b)
          clear b R0 R1 R2
          go_wp2_with fail
          refine (sum_any _ _ l K3 _ HL.out R3.out HN3.out f1 HP.out).mono ?_
          rintro e w9 ⟨rfl, rfl⟩
          rw [HS.out]
          go_wp2_with fail
          go_loopw [21] (fun iv wr => ∃ i : Nat, i ≤ K3.length ∧ iv = .int .i64 i ∧ Hid (w8 = wr)) (fun iv _ => K3.length - (intOf iv).toNat)
          case atStart => exact ⟨0, by omega, rfl, Lib.hid rfl⟩
          case round =>
            obtain ⟨i, hi3, rfl, HW⟩ := hrel
            obtain rfl := HW.out
            clear HW
            by_cases hlt : i < K3.length
            · have hlb : i < bf.length := by omega
              obtain ⟨a2, c2, hva, -, -, hcs⟩ := R3.out
              obtain ⟨a3, c3, hvb, -, -, hbs⟩ := HBF.out
              obtain ⟨rfl, rfl⟩ : ka = a2 ∧ kc = c2 := by simpa using hva
              obtain ⟨rfl, rfl⟩ : ba = a3 ∧ bc = c3 := by simpa using hvb
              obtain ⟨b, off, rfl, hxx⟩ := hcs (by intro e; rw [e] at hlt; simp at hlt)
              obtain ⟨xb, xo, rfl, hy⟩ := hbs (by intro e; rw [e] at hlb; simp at hlb)
              have x0 := hxx i _ (win_get (d := false) hlt)
              have y0 := hy i _ (win_get (d := false) hlb)
              have z1 : b < w8.heap.size := World.block_lt_of_cell? _ _ x0
              have z2 : xb < w8.heap.size := World.block_lt_of_cell? _ _ y0
              have t1 : (i : Int) < (K3.length : Int) := by omega
              have t2 : (i : Int) < (bf.length : Int) := by omega
              have HNI := Lib.hid (fun h hb => HNN.out h i (by omega) hb)
              clear hcs hbs hxx hy hva hvb
              by_cases hc : x < M
              · have hcb : decide (x < M) = true := decide_eq_true hc
                generalize K3.getD i false = t at *
                generalize bf.getD i false = s at *
                cases s
                · obtain rfl : t = false := HNI.out hc rfl
                  go_wp2
                  go_roundw
                  case rel => exact ⟨i + 1, hlt, by go_num, Lib.hid trivial⟩
                  case measure => simp [intOf]; omega
                · cases t
                  all_goals
                    go_wp2
                    go_roundw
                    case rel => exact ⟨i + 1, hlt, by go_num, Lib.hid trivial⟩
                    case measure => simp [intOf]; omega
              · have hcb : decide (x < M) = false := decide_eq_false hc
                generalize K3.getD i false = t at *
                generalize bf.getD i false = s at *
                go_wp2
                go_roundw
                case rel => exact ⟨i + 1, hlt, by go_num, Lib.hid trivial⟩
                case measure => simp [intOf]; omega
            · obtain rfl : i = K3.length := by omega
              go_wp2
              go_ret
              exact ⟨by simp, HB.out⟩
    · have g1 : ((bf.length : Int) != (l.length : Int)) = true := by simp; omega
      have g2 : ((bf.length : Int) = (l.length : Int)) = False := by simp; omega
      clear hf hM
      replace hn := Lib.hid hn
      go_enter Try.func7, Try.ntmps7
      go_wp2_with fail
      refine (head_any _).mono ?_
      rintro e w1 ⟨rfl, b⟩
      replace HL := Lib.hid (HL.out.step b)
      have HB := Lib.hid b
      clear b
      go_wp2_with fail
      refine (fine_q _ l x _ HL.out _ HF.out).mono ?_
      rintro e w2 ⟨rfl, b⟩
      replace HB := Lib.hid (keep2 b HB.out)
      clear b
      go_wp2
      go_ret
      exact ⟨by simp, HB.out⟩
end Go.Proofs.Ytpablikcidlkaaa
