/- Shedding: the law of priorities. -/
import Derived.Test.YtpablikcidlkaaaTd
namespace Go.Proofs.Ytpablikcidlkaaa
open Go.RowKit

def prC (l : List (Int × Int)) (K : List Bool) (i j : Nat) : Bool := K.getD j false && (decide (j ≠ i) && befB (pri l) j i)
def prS (l : List (Int × Int)) (K : List Bool) (i : Nat) : Nat → Int
  | 0 => pow l i
  | k + 1 => prS l K i k + (if prC l K i k = true then pow l k else 0)
theorem prS_is (l : List (Int × Int)) (K : List Bool) (i : Nat) : ∀ n, pow l i + ((List.range' 0 n).map fun j => if prC l K i j = true then pow l j else 0).sum = prS l K i n
  | 0 => by simp [prS]
  | n + 1 => by
    rw [List.range'_1_concat, List.map_append, List.sum_append, Nat.zero_add]
    have := prS_is l K i n
    unfold prS
    simp only [List.map_cons, List.map_nil, List.sum_cons, List.sum_nil]
    omega
theorem prS_in (l : List (Int × Int)) (K : List Bool) (i : Nat) (hp : ∀ i, 0 ≤ pow l i ∧ pow l i ≤ 1000000) : ∀ n, 0 ≤ prS l K i n ∧ prS l K i n ≤ (n + 1) * 1000000
  | 0 => by have := hp i; unfold prS; omega
  | n + 1 => by
    have h1 := prS_in l K i hp n
    have h2 := hp n
    unfold prS
    split <;> omega
theorem prio_is (l : List (Int × Int)) (x : Int) (i : Nat) (hi : i < l.length) : (kpL l fun _ => x).getD i false = decide (prS l (kpL l fun _ => x) i l.length ≤ x) := by
  have hs := ord_is (pri l) l.length
  have hmem : i ∈ ordL (pri l) l.length := hs.1.symm.subset (by rw [List.mem_range'_1]; omega)
  obtain ⟨pre, post, he⟩ := List.append_of_mem hmem
  have hnd := hs.2.nodup
  have hsr := hs.2
  rw [he] at hnd hsr
  have hn1 : i ∉ pre := fun hm => (List.nodup_append.1 hnd).2.2 i hm i (by simp) rfl
  have hn2 : i ∉ post := (List.nodup_cons.1 (List.nodup_append.1 hnd).2.1).1
  have hg : (kpL l fun _ => x).getD i false = decide ((kfo l (fun _ => x) pre).1 + pow l i ≤ x) := by
    show ((kfo l (fun _ => x) (ordL (pri l) l.length)).2).getD i false = _
    rw [he]
    exact kfo_get l _ i pre post hi hn1 hn2
  rw [hg]
  have h2 := kfo_sum_pre l (fun _ => x) _ pre (i :: post) rfl he
  have h3 := prS_is l (kpL l fun _ => x) i l.length
  have hpm := perm_sum (fun j => if prC l (kpL l fun _ => x) i j = true then pow l j else 0) hs.1
  rw [Nat.sub_zero] at hpm
  rw [← hpm, he, List.map_append, List.sum_append, List.map_cons, List.sum_cons] at h3
  have e1 : (pre.map fun j => if prC l (kpL l fun _ => x) i j = true then pow l j else 0) = pre.map fun j => if (kpL l fun _ => x).getD j false = true then pow l j else 0 := by
    apply List.map_congr_left
    intro j hj
    have hb : bef (pri l) j i := (List.pairwise_append.1 hsr).2.2 j hj i (by simp)
    have hne : j ≠ i := fun e => hn1 (e ▸ hj)
    unfold prC
    rw [befB_iff.2 hb, decide_eq_true hne]
    simp
  have e2 : prC l (kpL l fun _ => x) i i = false := by unfold prC; simp
  have e3 : (post.map fun j => if prC l (kpL l fun _ => x) i j = true then pow l j else 0) = post.map fun _ => 0 := by
    apply List.map_congr_left
    intro j hj
    have hb : bef (pri l) i j := (List.pairwise_cons.1 (List.pairwise_append.1 hsr).2.1).1 j hj
    have hf : befB (pri l) j i = false := by
      cases hc : befB (pri l) j i with
      | false => rfl
      | true => exact absurd (befB_iff.1 hc) (bef_asym hb)
    unfold prC
    rw [hf]
    simp
  have e4 : ∀ a : List Nat, (a.map fun _ => (0 : Int)).sum = 0 := fun a => by induction a with
    | nil => rfl
    | cons y a ih => simp only [List.map_cons, List.sum_cons, ih]; rfl
  rw [e1, e2, e3, e4, ← h2] at h3
  simp only [Bool.false_eq_true, if_false] at h3
  rw [← h3]
  congr 1
  apply propext
  constructor <;> intro h <;> omega
set_option maxRecDepth 100000 in
set_option maxHeartbeats 8000000 in
theorem prio_any (v : Value) (l : List (Int × Int)) (x : Int) (w : World) (h : ConsAt w v l) :
    Calls Try.prog 5 #[v, .int .i64 x] w fun e w' => e = .returned (.bool true) ∧ Below w.heap.size w w' := by
  have HL := Lib.hid h
  obtain ⟨va, vc, rfl, hml⟩ : ∃ a c, v = .slice a l.length c ∧ l.length ≤ maxLen := (by obtain ⟨a, c, e, _, hm, -⟩ := h; exact ⟨a, c, e, hm⟩)
  unfold maxLen at hml
  clear h
  cases hf : fineB l x
  · have HF := Lib.hid hf
    clear hf
    go_enter Try.func5, Try.ntmps5
    go_wp2_with fail
    refine (head_any _).mono ?_
    rintro e w1 ⟨rfl, b⟩
    replace HL := Lib.hid (HL.out.step b)
    have HB := Lib.hid b
    clear b
    go_wp2_with fail
    refine (fine_q _ l x _ HL.out _ HF.out).mono ?_
    rintro e w2 ⟨rfl, b⟩
    replace HB := Lib.hid (keep2 b HB.out)
    clear b
    go_wp2
    go_ret
    exact ⟨by simp, HB.out⟩
  · have HF := Lib.hid hf
    obtain ⟨f1, f2, f3⟩ := fine_parts hf
    have hx := wiB_iff.1 f3
    have HS1 := Lib.hid (show (acB l && wiB x 1000000000) = true by rw [f2, f3]; rfl)
    have HP := Lib.hid (acB_pow f2)
    have hpr := prio_is l x
    obtain ⟨K, hK⟩ : ∃ K, (kpL l fun _ => x) = K := ⟨_, rfl⟩
    rw [hK] at hpr
    have HPR := Lib.hid hpr
    have HK := Lib.hid hK
    have HN := Lib.hid (show K.length = l.length by rw [← hK]; exact kp_len _ _)
    have g1 : ((K.length : Int) != (l.length : Int)) = false := by have := HN.out; simp; omega
    have hKl : l.length ≤ K.length := by rw [HN.out]; exact Nat.le_refl _
    clear hf f2 f3 hK hpr
    go_enter Try.func5, Try.ntmps5
    go_wp2_with fail
    refine (head_any _).mono ?_
    rintro e w1 ⟨rfl, b⟩
    replace HL := Lib.hid (HL.out.step b)
    have HB := Lib.hid b
    clear b
    go_wp2_with fail
    refine (fine_q _ l x _ HL.out _ HF.out).mono ?_
    rintro e w2 ⟨rfl, b⟩
    replace HL := Lib.hid (HL.out.step b)
    replace HB := Lib.hid (keep2 b HB.out)
    clear b
    go_wp2_with fail
    refine (keep_e _ l x _ HL.out true K HS1.out HK.out).mono ?_
    rintro e w3 ⟨u3, rfl, r, b⟩
    replace HL := Lib.hid (HL.out.step b)
    replace HB := Lib.hid (keep2 b HB.out)
    have HR := Lib.hid r
    obtain ⟨ka, kc, rfl, -⟩ := r
    clear b
    go_wp2_with fail
    go_loopw [8] (fun iv wr => ∃ i : Nat, i ≤ l.length ∧ iv = .int .i64 i ∧ Hid (Below w3.heap.size w3 wr)) (fun iv _ => l.length - (intOf iv).toNat)
    case atStart => exact ⟨0, by omega, rfl, Lib.hid (Below.refl _ _)⟩
    case round =>
      obtain ⟨i, hi, rfl, HW⟩ := hrel
      by_cases hlt : i < l.length
      · obtain ⟨a2, c2, hva, -, -, hcs⟩ := HL.out.step HW.out
        obtain ⟨rfl, rfl⟩ : va = a2 ∧ vc = c2 := by simpa using hva
        obtain ⟨b, off, rfl, hxx⟩ := hcs (by intro e; rw [e] at hlt; simp at hlt)
        obtain ⟨x0, -⟩ := hxx i _ (win_get (d := (0, 0)) hlt)
        replace x0 : wr.cell? ⟨b, off + i * 2, none⟩ = some (.int .i64 (pow l i)) := x0
        have z1 : b < wr.heap.size := World.block_lt_of_cell? _ _ x0
        have t1 : (i : Int) < (l.length : Int) := by omega
        clear hxx hcs hva
        have HPI := Lib.hid (HPR.out i hlt)
        obtain ⟨WX, hWX⟩ : ∃ z, z = wr := ⟨_, rfl⟩
        subst hWX
        go_wp2_with fail
        go_loopw [9, 10] (fun sv jv wr => ∃ j : Nat, j ≤ l.length ∧ jv = .int .i64 j ∧ sv = .int .i64 (prS l K i j) ∧ Hid (Below w3.heap.size w3 wr)) (fun _ jv _ => l.length - (intOf jv).toNat)
        case atStart => exact ⟨0, by omega, rfl, rfl, HW⟩
        case round =>
          clear x0 z1 HW
          obtain ⟨j, hj, rfl, rfl, HW⟩ := hrel
          by_cases hjl : j < l.length
          · have hjk : j < K.length := by omega
            obtain ⟨a2, c2, hva, -, -, hcs⟩ := HL.out.step HW.out
            obtain ⟨a3, c3, hvb, -, -, hbs⟩ := HR.out.step HW.out
            obtain ⟨e91, e92⟩ : some ⟨b, off, none⟩ = a2 ∧ vc = c2 := by simpa using hva
            subst e92
            obtain ⟨rfl, rfl⟩ : ka = a3 ∧ kc = c3 := by simpa using hvb
            obtain ⟨b9, off9, e93, hxx⟩ := hcs (by intro e; rw [e] at hjl; simp at hjl)
            rw [← e91] at e93
            obtain ⟨rfl, rfl⟩ : b = b9 ∧ off = off9 := by simpa using e93
            obtain ⟨xb, xo, rfl, hy⟩ := hbs (by intro e; rw [e] at hjk; simp at hjk)
            obtain ⟨x0, -⟩ := hxx j _ (win_get (d := (0, 0)) hjl)
            replace x0 : wr.cell? ⟨b, off + j * 2, none⟩ = some (.int .i64 (pow l j)) := x0
            have y0 := hy j _ (win_get (d := false) hjk)
            have z1 : b < wr.heap.size := World.block_lt_of_cell? _ _ x0
            have z2 : xb < wr.heap.size := World.block_lt_of_cell? _ _ y0
            have t3 : (j : Int) < (l.length : Int) := by omega
            have t4 : (j : Int) < (K.length : Int) := by omega
            have hS := prS_in l K i HP.out j
            have hpj := HP.out j
            have HSS := Lib.hid (show prS l K i (j + 1) = prS l K i j + (if (K.getD j false && (decide (j ≠ i) && befB (pri l) j i)) = true then pow l j else 0) from rfl)
            have HFI := Lib.hid (first_any _ l j i wr (HL.out.step HW.out) hjl hlt f1)
            have HX0 := Lib.hid (fun (W : World) (hb : Below wr.heap.size wr W) => keep1 hb x0)
            clear hxx hy hcs hbs hva hvb e91 e93
            generalize prS l K i j = S at *
            generalize pow l j = p at *
            generalize K.getD j false = t at *
            generalize befB (pri l) j i = bb at *
            obtain ⟨hS1, hS2⟩ := hS
            have hS3 : S ≤ 62000000 := by omega
            clear hS2
            cases t
            · go_wp2_with fail
              go_roundw
              case rel => exact ⟨j + 1, hjl, by go_num, by rw [HSS.out]; simp, HW⟩
              case measure => simp [intOf]; omega
            · by_cases hE : j = i
              · have HS2 := Lib.hid (show prS l K i (j + 1) = S by rw [HSS.out, decide_eq_false (show ¬ (j ≠ i) from fun h => h hE)]; simp)
                have q3 : ((j : Int) != (i : Int)) = false := by simp; omega
                have q3b : ((j : Int) = (i : Int)) = True := by simp; omega
                replace hE := Lib.hid hE
                clear HSS
                go_wp2_with fail
                go_roundw
                case rel => exact ⟨j + 1, hjl, by go_num, by rw [HS2.out], HW⟩
                case measure => simp [intOf]; omega
              · have q3 : ((j : Int) != (i : Int)) = true := by simp; omega
                have q3b : ((j : Int) = (i : Int)) = False := by simp; omega
                have HS2 := Lib.hid (show prS l K i (j + 1) = S + (if bb = true then p else 0) by rw [HSS.out, decide_eq_true hE]; simp)
                replace hE := Lib.hid hE
                clear HSS
                cases bb
                · go_wp2_with fail
                  refine HFI.out.mono ?_
                  rintro e w7 ⟨rfl, b7⟩
                  have HW2 := Lib.hid (keep2 b7 HW.out)
                  clear b7
                  go_wp2_with fail
                  go_roundw
                  case rel => exact ⟨j + 1, hjl, by go_num, by rw [HS2.out]; simp, HW2⟩
                  case measure => simp [intOf]; omega
                · go_wp2_with fail
                  refine HFI.out.mono ?_
                  rintro e w7 ⟨rfl, b7⟩
                  have HW2 := Lib.hid (keep2 b7 HW.out)
                  have x7 := HX0.out w7 b7
                  clear b7 x0
                  go_wp2_with fail
                  go_roundw
                  case rel => exact ⟨j + 1, hjl, by go_num, by rw [HS2.out]; simp, HW2⟩
                  case measure => simp [intOf]; omega
          · obtain rfl : j = l.length := by omega
            have hik : i < K.length := by omega
            obtain ⟨a3, c3, hvb, -, -, hbs⟩ := HR.out.step HW.out
            obtain ⟨rfl, rfl⟩ : ka = a3 ∧ kc = c3 := by simpa using hvb
            obtain ⟨xb, xo, rfl, hy⟩ := hbs (by intro e; rw [e] at hik; simp at hik)
            have y0 := hy i _ (win_get (d := false) hik)
            have z2 : xb < wr.heap.size := World.block_lt_of_cell? _ _ y0
            have t4 : (i : Int) < (K.length : Int) := by omega
            have hpi := HPI.out
            clear hy hbs hvb HPI
            generalize prS l K i l.length = S at *
            generalize K.getD i false = t at *
            by_cases hc : S ≤ x
            · rw [decide_eq_true hc] at hpi
              subst hpi
              have hcb : decide (S ≤ x) = true := decide_eq_true hc
              go_wp2_with fail
              go_roundw
              case rel => exact ⟨i + 1, hlt, by go_num, HW⟩
              case measure => simp [intOf]; omega
            · rw [decide_eq_false hc] at hpi
              subst hpi
              have hcb : decide (S ≤ x) = false := decide_eq_false hc
              go_wp2_with fail
              go_roundw
              case rel => exact ⟨i + 1, hlt, by go_num, HW⟩
              case measure => simp [intOf]; omega
      · obtain rfl : i = l.length := by omega
        go_wp2
        go_ret
        exact ⟨by simp, keep2 HW.out HB.out⟩
end Go.Proofs.Ytpablikcidlkaaa
