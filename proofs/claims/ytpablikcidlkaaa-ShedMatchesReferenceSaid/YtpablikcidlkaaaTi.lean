/- Shedding: the reference's Step and Keep. -/
import Derived.Test.YtpablikcidlkaaaTh
namespace Go.Proofs.Ytpablikcidlkaaa
open Go.RowKit

theorem amount_q (n : Int) (b : Bool) (h : wiB n 1000000000 = b) (w : World) : Calls Try.prog 27 #[.int .i64 n] w fun e w' => e = .returned (.bool b) ∧ w = w' := by
  subst h
  by_cases h1 : 0 ≤ n
  · have HR := Lib.hid (show wiB n 1000000000 = decide (n ≤ 1000000000) by unfold wiB; simp [h1])
    go_enter Try.func27, Try.ntmps27
    go_wp2
    go_ret
    exact ⟨ret_bool HR.out.symm, rfl⟩
  · have HR := Lib.hid (show wiB n 1000000000 = false by unfold wiB; simp [h1])
    go_enter Try.func27, Try.ntmps27
    go_wp2
    go_ret
    exact ⟨ret_bool HR.out.symm, rfl⟩
theorem ord_take (l : List (Int × Int)) (k : Nat) (hk : k < l.length) : ∃ i, i < l.length ∧ (ordL (pri l) l.length).getD k 0 = i ∧ (ordL (pri l) l.length).take (k + 1) = (ordL (pri l) l.length).take k ++ [i] := by
  have hs := ord_is (pri l) l.length
  have hl : (ordL (pri l) l.length).length = l.length := by have := hs.len; simpa using this
  refine ⟨(ordL (pri l) l.length).getD k 0, (hs.mem (getD_mem (by omega))).2, rfl, ?_⟩
  rw [List.take_add_one, List.getElem?_eq_getElem (by omega)]
  simp [hl, hk]
set_option maxRecDepth 100000 in
set_option maxHeartbeats 8000000 in
theorem rstep_main (va : Option Addr) (vc : Nat) (vb : Value) (l : List (Int × Int)) (bf : List Bool) (x m : Int) (w : World) (h : ConsAt w (.slice va l.length vc) l) (hbf : BosAt w vb bf) (hok : stB l bf x m = true) : Calls Try.prog 14 #[.slice va l.length vc, vb, .int .i64 x, .int .i64 m] w (KpP l (lim2 bf x m) true w) := by
  obtain ⟨ba, bc, rfl, hml⟩ : ∃ a c, vb = .slice a bf.length c ∧ bf.length ≤ maxLen := (by obtain ⟨a, c, e, _, h, -⟩ := hbf; exact ⟨a, c, e, h⟩)
  have hq : acB l = true ∧ bf.length = l.length ∧ wiB x 1000000000 = true ∧ wiB m 1000000000 = true := by
    unfold stB at hok
    simp only [Bool.and_eq_true, decide_eq_true_eq] at hok
    exact ⟨hok.1.1.1, hok.1.1.2, hok.1.2, hok.2⟩
  obtain ⟨f1, f2, f3, f4⟩ := hq
  have HL := Lib.hid h
  have HBF := Lib.hid hbf
  have H1 := Lib.hid f1
  have H3 := Lib.hid f3
  have H4 := Lib.hid f4
  have hx := wiB_iff.1 f3
  have hm := wiB_iff.1 f4
  have hln := acB_len f1
  have HP := Lib.hid (acB_pow f1)
  have g1 : ((bf.length : Int) != (l.length : Int)) = false := by simp; omega
  have hmk := hmkB l.length (by omega)
  have hn1 : l.length ≤ bf.length := by omega
  have hn2 : bf.length ≤ l.length := by omega
  have HV := Lib.hid (valid_any _ l w h)
  rw [f1] at HV
  clear h hbf hok f1 f2 f3 f4 hml
  go_enter Try.func14, Try.ntmps14
  go_wp2_with fail
  refine HV.out.mono ?_
  rintro e w1 ⟨rfl, b⟩
  replace HL := Lib.hid (HL.out.step b)
  replace HBF := Lib.hid (HBF.out.step b)
  have HB := Lib.hid b
  clear b HV
  go_wp2_with fail
  refine (amount_q x _ H3.out _).mono ?_
  rintro e w9 ⟨rfl, rfl⟩
  go_wp2_with fail
  refine (amount_q m _ H4.out _).mono ?_
  rintro e w9 ⟨rfl, rfl⟩
  go_wp2_with fail
  have hal := al w1 (.cells (Array.replicate l.length (.bool false)) 4)
  have hbx := BoxN.new w1 (Array.replicate l.length (.bool false)) 4 rfl
  refine (order_any _ l _ (HL.out.step hal) H1.out).mono ?_
  rintro e w2 ⟨r, rfl, hrow, b⟩
  have HBX := Lib.hid (hbx.step b)
  have HB2 := Lib.hid (keep2 b (keep2 hal HB.out))
  have HLO := Lib.hid HL.out
  have HK2 := Lib.hid (keep2 b hal)
  obtain ⟨ra, rc, rfl, hrr⟩ : ∃ a c, r = .slice a l.length c ∧ (0 < l.length → ∃ g, a = some ⟨g, 0, none⟩ ∧ w1.heap.size < g ∧ g < w2.heap.size ∧ ∀ k, k < l.length → w2.cell? ⟨g, k, none⟩ = some (.int .i64 (((ordL (pri l) l.length).getD k 0 : Nat) : Int))) := by
    have hcs := fun g (hg : r.ownBlock = some g) => hrow.cells hg
    rcases hrow.2 with ⟨rfl, h0⟩ | ⟨g, cap, cur, rfl, h1, h2, -⟩
    · exact ⟨none, 0, by rw [h0], fun hp => by omega⟩
    · refine ⟨_, cap, rfl, fun _ => ⟨g, rfl, by simp at h1; omega, (Array.getElem?_eq_some_iff.1 h2).1, fun k hk => ?_⟩⟩
      have := hcs g rfl k (.int .i64 (((ordL (pri l) l.length).getD k 0 : Nat) : Int)) (by
        have hl : (ordL (pri l) l.length).length = l.length := by have := (ord_is (pri l) l.length).len; simpa using this
        unfold iVs
        simp [hl, hk])
      rwa [Go.WideShapes.add_plain, Nat.zero_add] at this
  have HRR := Lib.hid hrr
  obtain ⟨g, hg⟩ : ∃ g, w1.heap.size = g := ⟨_, rfl⟩
  rw [hg] at HBX HRR
  have HG := Lib.hid hg
  have hgl : w.heap.size ≤ g := by rw [← hg]; exact HB.out.size
  clear hrow b hal hbx hrr hmk
  go_wp2_with fail
  clear hg
  go_loopw [12, 13] (fun sv kv wr => ∃ k : Nat, k ≤ l.length ∧ kv = .int .i64 k ∧ sv = .int .i64 (kfo l (lim2 bf x m) ((ordL (pri l) l.length).take k)).1 ∧ Hid (BoxN wr g (bArr (kfo l (lim2 bf x m) ((ordL (pri l) l.length).take k)).2) 4) ∧ Hid (Kq w.heap.size g g w2 wr)) (fun _ kv _ => l.length - (intOf kv).toNat)
  case atStart => exact ⟨0, by omega, rfl, rfl, Lib.hid (by have e : bArr (kfo l (lim2 bf x m) ((ordL (pri l) l.length).take 0)).2 = Array.replicate l.length (.bool false) := (by simp [kfo, bArr]); rw [e]; exact HBX.out), Lib.hid (Kq.refl _ _ _ _)⟩
  case round =>
    clear HBX
    obtain ⟨k, hk, rfl, rfl, HBX, HKQ⟩ := hrel
    by_cases hlt : k < l.length
    · obtain ⟨i, hil, hio, htk⟩ := ord_take l k hlt
      obtain ⟨og, rfl, hog1, hog2, hoc⟩ := HRR.out (by omega)
      have o0 := HKQ.out.cell (hoc k hlt) (by show og ≠ g; have := HG.out; omega) (by show og ≠ g; have := HG.out; omega)
      rw [hio] at o0
      obtain ⟨a2, c2, hva, -, -, hcs⟩ := HLO.out
      obtain ⟨rfl, rfl⟩ : va = a2 ∧ vc = c2 := by simpa using hva
      obtain ⟨b, off, rfl, hxx⟩ := hcs (by intro e; rw [e] at hlt; simp at hlt)
      obtain ⟨p0, -⟩ := hxx i _ (win_get (d := (0, 0)) hil)
      replace p0 : w1.cell? ⟨b, off + i * 2, none⟩ = some (.int .i64 (pow l i)) := p0
      have zb : b < w1.heap.size := World.block_lt_of_cell? _ _ p0
      have p1 := HKQ.out.cell (keep1 HK2.out p0) (by show b ≠ g; have := HG.out; omega) (by show b ≠ g; have := HG.out; omega)
      obtain ⟨a3, c3, hvb, -, -, hbs⟩ := HBF.out
      obtain ⟨rfl, rfl⟩ : ba = a3 ∧ bc = c3 := by simpa using hvb
      have hbne : bf ≠ [] := fun e => by
        have h0 : bf.length = 0 := by rw [e]; rfl
        omega
      obtain ⟨xb, xo, rfl, hy⟩ := hbs hbne
      have y0 := hy i _ (win_get (d := false) (by omega))
      have zy : xb < w1.heap.size := World.block_lt_of_cell? _ _ y0
      have y1 := HKQ.out.cell (keep1 HK2.out y0) (by show xb ≠ g; have := HG.out; omega) (by show xb ≠ g; have := HG.out; omega)
      have zo : og < wr.heap.size := World.block_lt_of_cell? _ _ o0
      have zp : b < wr.heap.size := World.block_lt_of_cell? _ _ p1
      have zz : xb < wr.heap.size := World.block_lt_of_cell? _ _ y1
      have zg := HBX.out.lt
      have t1 : (k : Int) < (l.length : Int) := by omega
      have t2 : (i : Int) < (l.length : Int) := by omega
      have t3 : (i : Int) < (bf.length : Int) := by omega
      have hsn := kfo_snoc l (lim2 bf x m) ((ordL (pri l) l.length).take k) i
      rw [← htk] at hsn
      have hsu := kfo_sum l (lim2 bf x m) HP.out ((ordL (pri l) l.length).take k)
      have hkl := kfo_len l (lim2 bf x m) ((ordL (pri l) l.length).take k)
      have htl : ((ordL (pri l) l.length).take k).length ≤ 500 := by rw [List.length_take]; omega
      have hpi := HP.out i
      have f0 := HBX.out.frozen i
      obtain ⟨st, hst⟩ : ∃ st, kfo l (lim2 bf x m) ((ordL (pri l) l.length).take k) = st := ⟨_, rfl⟩
      rw [hst] at hsn hsu hkl HBX
      rw [hst]
      obtain ⟨sm, kl⟩ := st
      simp only at hsu hkl
      have hs1 : 0 ≤ sm := hsu.1
      have hs2 : sm ≤ 500000000 := by have := hsu.2; omega
      have c1 : wr.cell? ⟨g, i, none⟩ = some (.bool (kl.getD i false)) := (HBX.out.cell i).trans (by simp [bArr, hkl, hil])
      have HSET := Lib.hid (HBX.out.set (bArr_set kl i))
      have hstp : Kq w.heap.size g g wr (wr.setCell ⟨g, i, none⟩ (.bool true)) := ⟨(Below.refl _ wr).setCell (p := ⟨g, i, none⟩) hgl _, fun j o e1 _ ho _ => (heap_setCell_other _ _ _ _ (by simpa using e1)).trans ho⟩
      have HKS := Lib.hid (HKQ.out.trans hstp)
      have p2 := hstp.cell p1 (by show b ≠ g; have := HG.out; omega) (by show b ≠ g; have := HG.out; omega)
      clear hstp
      have hlv : lim2 bf x m i = if bf.getD i false = true then x else x - m := rfl
      unfold kst at hsn
      rw [hlv] at hsn
      simp only at hsn
      clear hlv
      have HSN := Lib.hid hsn
      clear hbne hsn hst htk hsu hkl hoc hxx hy hcs hbs hva hvb p0 y0 hio htl
      generalize pow l i = p at *
      generalize kl.getD i false = ob at *
      generalize bf.getD i false = t at *
      cases t
      · have hsn := HSN.out
        simp only [Bool.false_eq_true, ↓reduceIte] at hsn
        clear HSN
        by_cases hc : sm + p ≤ x - m
        · rw [if_pos hc] at hsn
          have HS := Lib.hid hsn
          have hcb : decide (sm + p ≤ x - m) = true := decide_eq_true hc
          clear hsn
          go_wp2
          go_roundw
          case rel => exact ⟨k + 1, hlt, by go_num, by rw [HS.out], Lib.hid (by rw [HS.out]; exact HSET.out), HKS⟩
          case measure => simp [intOf]; omega
        · rw [if_neg hc] at hsn
          have HS := Lib.hid hsn
          have hcb : decide (sm + p ≤ x - m) = false := decide_eq_false hc
          clear hsn
          go_wp2
          go_roundw
          case rel => exact ⟨k + 1, hlt, by go_num, by rw [HS.out], Lib.hid (by rw [HS.out]; exact HBX.out), HKQ⟩
          case measure => simp [intOf]; omega
      · have hsn := HSN.out
        simp only [↓reduceIte] at hsn
        clear HSN
        by_cases hc : sm + p ≤ x
        · rw [if_pos hc] at hsn
          have HS := Lib.hid hsn
          have hcb : decide (sm + p ≤ x) = true := decide_eq_true hc
          clear hsn
          go_wp2
          go_roundw
          case rel => exact ⟨k + 1, hlt, by go_num, by rw [HS.out], Lib.hid (by rw [HS.out]; exact HSET.out), HKS⟩
          case measure => simp [intOf]; omega
        · rw [if_neg hc] at hsn
          have HS := Lib.hid hsn
          have hcb : decide (sm + p ≤ x) = false := decide_eq_false hc
          clear hsn
          go_wp2
          go_roundw
          case rel => exact ⟨k + 1, hlt, by go_num, by rw [HS.out], Lib.hid (by rw [HS.out]; exact HBX.out), HKQ⟩
          case measure => simp [intOf]; omega
    · obtain rfl : k = l.length := by omega
      have hbx := HBX.out
      rw [List.take_of_length_le (by have := (ord_is (pri l) l.length).len; omega)] at hbx
      have HR := Lib.hid (show BosAt wr (.slice (some ⟨g, 0, none⟩) l.length l.length) (kpL l (lim2 bf x m)) from bos_box hbx (kp_len _ _) (by omega))
      have HBB := Lib.hid (HB2.out.trans HKQ.out.1)
      clear hbx
      go_wp2
      go_ret2
      exact ⟨_, rfl, HR.out, HBB.out⟩
end Go.Proofs.Ytpablikcidlkaaa
