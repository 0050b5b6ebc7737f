import Derived.Deep.CutBlock
import Derived.Deep.CutRange
import Derived.Test.YtolinnmhdclgpaaFg
namespace Go.Proofs.Ytolinnmhdclgpaa
open Go.RowKit

theorem mod_nat {n : Int} {len : Nat} (_ : 0 ≤ n) (hl : 0 < len) : ∃ k : Nat, n % (len : Int) = k ∧ k < len :=
  ⟨(n % (len : Int)).toNat, by have := Int.emod_nonneg n (show (len : Int) ≠ 0 by omega); omega, by have := Int.emod_lt_of_pos n (show (0 : Int) < (len : Int) by omega); have := Int.emod_nonneg n (show (len : Int) ≠ 0 by omega); omega⟩
theorem meas_any {i : Nat} {n : Nat} (h : i < n) (_ : n ≤ 40) : n - (intOf (.int .i64 ((i : Int) + 1))).toNat < n - (intOf (.int .i64 (i : Int))).toNat := by
  show n - ((i : Int) + 1).toNat < n - ((i : Int)).toNat
  omega
theorem ints_t (v u : Value) (l l' : List Int) (hl : l = l') (w : World) (h : IntsAt w v l) (h' : IntsAt w u l') :
    Calls Try.prog 33 #[v, u] w fun e w' => e = .returned (.bool true) ∧ Below w.heap.size w w' := by
  subst hl
  refine (ints_b v u l l w h h').mono ?_
  rintro e w' ⟨rfl, hb⟩
  exact ⟨by rw [decide_eq_true rfl], hb⟩
theorem made_x (a b c d n : Int) (ha : -1 ≤ a ∧ a ≤ 1000000000) (hb : 0 ≤ b ∧ b ≤ 1000000000) (hn : 0 ≤ n ∧ n ≤ 100000) (w : World) :
    Calls Try.prog 26 #[.agg #[.int .i64 a, .int .i64 b, .int .i64 c, .int .i64 d], .int .i64 n] w fun e w' => ∃ A B E : Int, e = .returned (.agg #[.int .i64 A, .int .i64 B, .int .i64 0, .int .i64 E]) ∧ Hid (a < A ∧ b ≤ B) ∧ Below w.heap.size w w' :=
  (made_any a b c d n ha hb hn w).mono fun _ _ ⟨A, B, E, h1, h2, h3, h4⟩ => ⟨A, B, E, h1, Lib.hid ⟨h2, h3⟩, h4⟩
theorem one_wos {w : World} {k : Nat} {x : Wo} (h : Cs w k #[.int .i64 x.v, .int .i64 (x.D : Int), .int .i64 x.c]) : WosAt w (.slice (some ⟨k, 0, none⟩) 1 1) [x] := by
  refine ⟨some ⟨k, 0, none⟩, 1, rfl, by simp, by simp [maxLen], fun _ => ⟨k, 0, rfl, fun i y hi => ?_⟩⟩
  have : i = 0 := by
    cases i with
    | zero => rfl
    | succ i => simp at hi
  subst this
  obtain rfl : x = y := by simpa using hi
  exact ⟨h.c 0 rfl, h.c 1 rfl, h.c 2 rfl⟩
set_option maxRecDepth 100000 in
set_option maxHeartbeats 8000000 in
theorem exact_no (st : Int) (vl : Value) (l : List Int) (w : World) (_ : 0 ≤ st) (_ : st ≤ 255) (h : KsAt .u16 w vl l) (hl : 12 < l.length) :
    Calls Try.prog 6 #[.int .u8 st, vl] w fun e w' => e = .returned (.bool true) ∧ Below w.heap.size w w' := by
  have H0 := Lib.hid (Below.refl w.heap.size w)
  have HK := Lib.hid h
  obtain ⟨sa, sc, rfl, -, -⟩ := h
  go_enter Try.func6, Try.ntmps6
  go_wp2_with fail
  refine (head_any _).mono ?_
  rintro e u1 ⟨rfl, b1⟩
  have H1 := Lib.hid (keep2 b1 H0.out)
  clear H0
  clear b1
  have hg : (12 : Int) < (l.length : Int) := by omega
  go_wp2
  go_ret
  exact ⟨rfl, H1.out⟩
set_option maxRecDepth 100000 in
set_option maxHeartbeats 8000000 in
theorem exact_go (st : Int) (vl : Value) (l : List Int) (w : World) (a1 : 0 ≤ st) (a2 : st ≤ 255) (h : KsAt .u16 w vl l) (hl : ¬ 12 < l.length) :
    Calls Try.prog 6 #[.int .u8 st, vl] w fun e w' => e = .returned (.bool true) ∧ Below w.heap.size w w' := by
  have H0 := Lib.hid (Below.refl w.heap.size w)
  have HK := Lib.hid h
  obtain ⟨sa, sc, rfl, -, -⟩ := h
  have HS0 := Lib.hid (show 0 ≤ st % 4 ∧ st % 4 < 16 by omega)
  obtain ⟨V0, hV0⟩ : ∃ z, [st % 4] = z := ⟨_, rfl⟩
  obtain ⟨M0, hM0⟩ : ∃ z, bS (-1) (st % 4) = z := ⟨_, rfl⟩
  have HTR0 := Lib.hid (IZ.start HS0.out)
  rw [hV0, hM0] at HTR0
  have HV0 := Lib.hid hV0
  have HM0 := Lib.hid hM0
  clear hV0 hM0
  go_enter Try.func6, Try.ntmps6
  go_wp2_with fail
  refine (head_any _).mono ?_
  rintro e u1 ⟨rfl, b1⟩
  have H1 := Lib.hid (keep2 b1 H0.out)
  clear H0
  clear b1
  have hg : ¬ (12 : Int) < (l.length : Int) := by omega
  have H9 := Lib.hid (show l.length ≤ 40 by omega)
  go_wp2_with fail
  refine (known_q (st % 4) HS0.out HV0.out HM0.out _).mono ?_
  rintro e u2 ⟨ua0, uc0, fa0, fc0, rfl, b2, hr⟩
  have H2 := Lib.hid (keep2 b2 H1.out)
  clear H1
  clear b2
  have HKU := Lib.hid H2.out.size
  have HXU := Lib.hid (BoxN.new u2 #[.slice ua0 V0.length uc0, .slice fa0 M0.length fc0] 25)
  have HIU := Lib.hid (fun q => ints_lt hr.1 q)
  have HOU := Lib.hid (fun q => ods_lt hr.2 q)
  have H3 := Lib.hid (hr)
  clear hr
  have H4 := Lib.hid (H3.out.step (al u2 (.cells #[.slice ua0 V0.length uc0, .slice fa0 M0.length fc0] 25)))
  clear H3
  have H5 := Lib.hid (keep2 (al u2 (.cells #[.slice ua0 V0.length uc0, .slice fa0 M0.length fc0] 25)) H2.out)
  clear H2
  have H6 := Lib.hid (Cs.new u2 (u2.heap.size) #[.slice ua0 V0.length uc0, .slice fa0 M0.length fc0] 25 (by simp))
  have H7 := Lib.hid (H4.out.step (al (u2.alloc (.cells #[.slice ua0 V0.length uc0, .slice fa0 M0.length fc0] 25)) (.cells #[.int .i64 (st % 4), .int .i64 0, .int .i64 (-1)] 44)))
  clear H4
  have H8 := Lib.hid (H6.out.step (al (u2.alloc (.cells #[.slice ua0 V0.length uc0, .slice fa0 M0.length fc0] 25)) (.cells #[.int .i64 (st % 4), .int .i64 0, .int .i64 (-1)] 44)))
  clear H6
  have H9 := Lib.hid (HXU.out.step (al (u2.alloc (.cells #[.slice ua0 V0.length uc0, .slice fa0 M0.length fc0] 25)) (.cells #[.int .i64 (st % 4), .int .i64 0, .int .i64 (-1)] 44)))
  clear HXU
  have H10 := Lib.hid (keep2 (al (u2.alloc (.cells #[.slice ua0 V0.length uc0, .slice fa0 M0.length fc0] 25)) (.cells #[.int .i64 (st % 4), .int .i64 0, .int .i64 (-1)] 44)) H5.out)
  clear H5
  have H11 := Lib.hid (Cs.new (u2.alloc (.cells #[.slice ua0 V0.length uc0, .slice fa0 M0.length fc0] 25)) (u2.heap.size + 1) #[.int .i64 (st % 4), .int .i64 0, .int .i64 (-1)] 44 (by simp))
  have H12 := Lib.hid (H7.out.step (al ((u2.alloc (.cells #[.slice ua0 V0.length uc0, .slice fa0 M0.length fc0] 25)).alloc (.cells #[.int .i64 (st % 4), .int .i64 0, .int .i64 (-1)] 44)) (.cells #[.int .i64 (-1), .int .i64 0, .int .i64 0, .int .i64 0] 27)))
  clear H7
  have H13 := Lib.hid (H8.out.step (al ((u2.alloc (.cells #[.slice ua0 V0.length uc0, .slice fa0 M0.length fc0] 25)).alloc (.cells #[.int .i64 (st % 4), .int .i64 0, .int .i64 (-1)] 44)) (.cells #[.int .i64 (-1), .int .i64 0, .int .i64 0, .int .i64 0] 27)))
  clear H8
  have H14 := Lib.hid (H9.out.step (al ((u2.alloc (.cells #[.slice ua0 V0.length uc0, .slice fa0 M0.length fc0] 25)).alloc (.cells #[.int .i64 (st % 4), .int .i64 0, .int .i64 (-1)] 44)) (.cells #[.int .i64 (-1), .int .i64 0, .int .i64 0, .int .i64 0] 27)))
  clear H9
  have H15 := Lib.hid (H11.out.step (al ((u2.alloc (.cells #[.slice ua0 V0.length uc0, .slice fa0 M0.length fc0] 25)).alloc (.cells #[.int .i64 (st % 4), .int .i64 0, .int .i64 (-1)] 44)) (.cells #[.int .i64 (-1), .int .i64 0, .int .i64 0, .int .i64 0] 27)))
  clear H11
  have H16 := Lib.hid (keep2 (al ((u2.alloc (.cells #[.slice ua0 V0.length uc0, .slice fa0 M0.length fc0] 25)).alloc (.cells #[.int .i64 (st % 4), .int .i64 0, .int .i64 (-1)] 44)) (.cells #[.int .i64 (-1), .int .i64 0, .int .i64 0, .int .i64 0] 27)) H10.out)
  clear H10
  have H17 := Lib.hid (Cs.new ((u2.alloc (.cells #[.slice ua0 V0.length uc0, .slice fa0 M0.length fc0] 25)).alloc (.cells #[.int .i64 (st % 4), .int .i64 0, .int .i64 (-1)] 44)) (u2.heap.size + 1 + 1) #[.int .i64 (-1), .int .i64 0, .int .i64 0, .int .i64 0] 27 (by simp))
  go_wp2_with fail
  obtain ⟨U, hU⟩ : ∃ z, (((u2.alloc (.cells #[.slice ua0 V0.length uc0, .slice fa0 M0.length fc0] 25)).alloc (.cells #[.int .i64 (st % 4), .int .i64 0, .int .i64 (-1)] 44)).alloc (.cells #[.int .i64 (-1), .int .i64 0, .int .i64 0, .int .i64 0] 27)) = z := ⟨_, rfl⟩
  have HUS := Lib.hid (show U.heap.size = u2.heap.size + 1 + 1 + 1 by rw [← hU]; simp)
  rw [hU] at H12 H13 H14 H15 H17 H16 ⊢
  clear hU
  obtain ⟨kb, hkb⟩ : ∃ z, u2.heap.size = z := ⟨_, rfl⟩
  rw [hkb] at H13 H14 H15 H17 HKU HIU HOU HUS ⊢
  obtain ⟨kw, hkw⟩ : ∃ z, kb + 1 = z := ⟨_, rfl⟩
  obtain ⟨kl, hkl⟩ : ∃ z, kw + 1 = z := ⟨_, rfl⟩
  rw [hkw] at H17 H15 HUS ⊢
  rw [hkl] at H17 HUS ⊢
  obtain ⟨base, hbase⟩ : ∃ z, U.heap.size = z := ⟨_, rfl⟩
  have HNUM := Lib.hid (show (kb < base ∧ kl < base) ∧ kb ≠ kl ∧ kw ≠ kb ∧ kw ≠ kl ∧ w.heap.size ≤ kb by have h1 := HUS.out; have h2 := HKU.out; omega)
  have hwt : WX base kb kl none 0 [] ⟨-1, 0, 0, 0⟩ V0 M0 (some ⟨kw, 0, none⟩) 1 [⟨st % 4, 0, -1⟩] U := ⟨⟨ua0, uc0, fa0, fc0, H14.out, H12.out, fun q => ⟨fun g o g' o' e e' => (by cases e'), fun g o e => by have := HIU.out q g o e; omega, fun g o e => by have := HIU.out q g o e; omega⟩, fun q => ⟨fun g o g' o' e e' => (by cases e'), fun g o e => by have := HOU.out q g o e; omega, fun g o e => by have := HOU.out q g o e; omega⟩⟩, H17.out, World.ownsRow_nil U base 27 4, by omega, HNUM.out.1, HNUM.out.2.1, one_wos H15.out, fun _ => ⟨fun g o g' o' e e' => (by cases e'), fun g o e => by cases e; exact HNUM.out.2.2.1, fun g o e => by cases e; exact HNUM.out.2.2.2.1⟩⟩
  have HLO := Lib.hid (show w.heap.size ≤ kb ∧ w.heap.size ≤ kl by have := HNUM.out; omega)
  have HLB := Lib.hid (show w.heap.size ≤ base by have := HNUM.out; omega)
  have HWT0 := Lib.hid hwt
  have HKK := Lib.hid (show kb < base from HNUM.out.1.1)
  have HB0 := H16
  clear hwt hkb hkw hkl HKU HIU HOU HUS H12 H13 H14 H15 H17
  go_loopw [7, 8, 10] (fun av lv iv wr => ∃ i : Nat, i ≤ l.length ∧ iv = .int .i64 (i : Int) ∧ ∃ (la : Option Addr) (lc : Nat) (L : List Od) (c : Int) (z : Od) (V : List Int) (M : List Od) (aa : Option Addr) (ac : Nat) (all : List Wo), av = .slice aa all.length ac ∧ lv = .slice la L.length lc ∧ Hid (IZ L all V M c z) ∧ Hid (WX base kb kl la lc L z V M aa ac all wr) ∧ Hid (Below w.heap.size w wr)) (fun _ _ iv _ => l.length - (intOf iv).toNat)
  case atStart => exact ⟨0, by omega, rfl, none, 0, [], -1, ⟨-1, 0, 0, 0⟩, V0, M0, some ⟨kw, 0, none⟩, 1, [⟨st % 4, 0, -1⟩], rfl, rfl, HTR0, HWT0, HB0⟩
  case round =>
    obtain ⟨i, hi, rfl, la, lc, L, c, z, V, M, aa, ac, all, rfl, rfl, HIZ, HT, HW⟩ := hrel
    clear HTR0 HWT0 HB0
    by_cases hlt : i < l.length
    rotate_left
    · obtain rfl : i = l.length := by omega
      go_wp2
      go_ret
      exact ⟨rfl, HW.out⟩
    have HIL := Lib.hid (show i + 1 ≤ l.length from hlt)
    obtain ⟨bk, ok, rfl, y0, y1, y2⟩ := ks_get (HK.out.step HW.out) hlt
    have yz := World.block_lt_of_cell? _ _ y0
    have t1 : (i : Int) < (l.length : Int) := by omega
    obtain ⟨yv, hyv⟩ : ∃ z9, l.getD i 0 = z9 := ⟨_, rfl⟩
    rw [hyv] at y0 y1 y2
    have y1 : 0 ≤ yv := y1
    have y2 : yv ≤ 65535 := y2
    have HY1 := Lib.hid (show 0 ≤ yv ∧ yv ≤ 65535 from ⟨y1, y2⟩)
    have HN4 := Lib.hid (show 0 ≤ yv / 4 ∧ yv / 4 ≤ 100000 by omega)
    clear hyv
    go_upto_block 2 with fail
    clear y0 yz t1 hlt hi
    go_cut [7, 8] from 54 to 55 (fun av lv wr => ∃ (la : Option Addr) (lc : Nat) (L : List Od) (c : Int) (z : Od) (V : List Int) (M : List Od) (aa : Option Addr) (ac : Nat) (all : List Wo), av = .slice aa all.length ac ∧ lv = .slice la L.length lc ∧ Hid (Pre L all V M c z) ∧ Hid (WX base kb kl la lc L z V M aa ac all wr) ∧ Hid (Below w.heap.size w wr))
    case first =>
      have hr4 : yv % 4 = 0 ∨ yv % 4 = 1 ∨ yv % 4 = 2 ∨ yv % 4 = 3 := by omega
      rcases hr4 with hr4 | hr4 | hr4 | hr4
      · skip
        obtain ⟨ua, uc, fa, fc, hx9, hr9, hf8, hf9⟩ := HT.out.bb
        have H301 := Lib.hid (hx9)
        have H302 := Lib.hid (hr9)
        clear hx9 hr9 hf8 hf9
        have xZ0 := HT.out.zb.c 0 rfl
        have xZ1 := HT.out.zb.c 1 rfl
        have xZ2 := HT.out.zb.c 2 rfl
        have xZ3 := HT.out.zb.c 3 rfl
        have xZz := HT.out.zb.2.2
        go_wp2_with fail
        refine (made_x z.a z.b z.c z.d (yv / 4) HIZ.out.za HIZ.out.zb HN4.out _).mono ?_
        rintro e u31 ⟨oA, oB, oE, rfl, HOA, b31⟩
        clear xZ0 xZ1 xZ2 xZ3 xZz
        have H303 := Lib.hid (HT.out.step b31)
        clear HT
        have H304 := Lib.hid (H301.out.step b31)
        clear H301
        have H305 := Lib.hid (H302.out.step b31)
        clear H302
        have H306 := Lib.hid (keep2 b31 HW.out)
        clear HW
        clear b31
        have HOB := Lib.hid (show u31.heap.size ≠ kb by have := (cs_of_box H304.out).2.2; omega)
        have HOB2 := Lib.hid (show ∀ g o, la = some ⟨g, o, none⟩ → g ≠ u31.heap.size from fun g o e => by have := row_lt H303.out.row g o e; omega)
        have H307 := Lib.hid (H303.out.step (al u31 (.cells #[.int .i64 oA, .int .i64 oB, .int .i64 0, .int .i64 oE] 27)))
        clear H303
        have H308 := Lib.hid (H304.out.step (al u31 (.cells #[.int .i64 oA, .int .i64 oB, .int .i64 0, .int .i64 oE] 27)))
        clear H304
        have H309 := Lib.hid (H305.out.step (al u31 (.cells #[.int .i64 oA, .int .i64 oB, .int .i64 0, .int .i64 oE] 27)))
        clear H305
        have H310 := Lib.hid (keep2 (al u31 (.cells #[.int .i64 oA, .int .i64 oB, .int .i64 0, .int .i64 oE] 27)) H306.out)
        clear H306
        have H311 := Lib.hid (Cs.new u31 (u31.heap.size) #[.int .i64 oA, .int .i64 oB, .int .i64 0, .int .i64 oE] 27 (by simp))
        obtain ⟨E1, hE1⟩ : ∃ z9, snE V M ⟨oA, oB, 0, oE⟩ = z9 := ⟨_, rfl⟩
        obtain ⟨V1, hV1⟩ : ∃ z9, rV E1 (M ++ [⟨oA, oB, 0, oE⟩]) = z9 := ⟨_, rfl⟩
        obtain ⟨M1, hM1⟩ : ∃ z9, rM E1 (M ++ [⟨oA, oB, 0, oE⟩]) = z9 := ⟨_, rfl⟩
        have HE1 := Lib.hid hE1
        have HV1 := Lib.hid hV1
        have HM1 := Lib.hid hM1
        clear hE1 hV1 hM1
        have xX0 := (cs_of_box H308.out).c 0 rfl
        have xX1 := (cs_of_box H308.out).c 1 rfl
        have xXz := (cs_of_box H308.out).2.2
        have xO0 : (u31.alloc (.cells #[.int .i64 oA, .int .i64 oB, .int .i64 0, .int .i64 oE] 27)).cell? ⟨(u31.heap.size), 0, none⟩ = some (.int .i64 oA) := H311.out.c 0 rfl
        have xO1 : (u31.alloc (.cells #[.int .i64 oA, .int .i64 oB, .int .i64 0, .int .i64 oE] 27)).cell? ⟨(u31.heap.size), 1, none⟩ = some (.int .i64 oB) := H311.out.c 1 rfl
        have xO2 : (u31.alloc (.cells #[.int .i64 oA, .int .i64 oB, .int .i64 0, .int .i64 oE] 27)).cell? ⟨(u31.heap.size), 2, none⟩ = some (.int .i64 0) := H311.out.c 2 rfl
        have xO3 : (u31.alloc (.cells #[.int .i64 oA, .int .i64 oB, .int .i64 0, .int .i64 oE] 27)).cell? ⟨(u31.heap.size), 3, none⟩ = some (.int .i64 oE) := H311.out.c 3 rfl
        have zO : (u31.heap.size) < (u31.alloc (.cells #[.int .i64 oA, .int .i64 oB, .int .i64 0, .int .i64 oE] 27)).heap.size := H311.out.2.2
        go_wp2_with fail
        have HP := Lib.hid (And.intro (row_lt H307.out.row) H307.out.zb.2.2)
        refine (sent_f ⟨oA, oB, 0, oE⟩ HE1.out HV1.out HM1.out ua uc fa fc _ H309.out HIZ.out.lens.1 HIZ.out.lens.2).mono ?_
        rintro e u32 ⟨ua1, uc1, fa1, fc1, rfl, b32, hr1, hf1, hf2⟩
        clear xX0 xX1 xXz xO0 xO1 xO2 xO3 zO
        have H312 := Lib.hid (H307.out.step b32)
        clear H307
        have H313 := Lib.hid (H308.out.step b32)
        clear H308
        have H314 := Lib.hid (H309.out.step b32)
        clear H309
        have H315 := Lib.hid (H311.out.step b32)
        clear H311
        have H316 := Lib.hid (keep2 b32 H310.out)
        clear H310
        clear b32
        have HFA := Lib.hid (far_fresh hf1 HP.out.1 HP.out.2 HP.out.2)
        have HFB := Lib.hid (far_fresh hf2 HP.out.1 HP.out.2 HP.out.2)
        clear hf1 hf2
        have H317 := Lib.hid (hr1)
        clear hr1
        have H318 := Lib.hid (H312.out.step (al u32 (.cells #[.slice ua1 V1.length uc1, .slice fa1 M1.length fc1] 25)))
        clear H312
        have H319 := Lib.hid (H313.out.step (al u32 (.cells #[.slice ua1 V1.length uc1, .slice fa1 M1.length fc1] 25)))
        clear H313
        have H320 := Lib.hid (H314.out.step (al u32 (.cells #[.slice ua1 V1.length uc1, .slice fa1 M1.length fc1] 25)))
        clear H314
        have H321 := Lib.hid (H315.out.step (al u32 (.cells #[.slice ua1 V1.length uc1, .slice fa1 M1.length fc1] 25)))
        clear H315
        have H322 := Lib.hid (H317.out.step (al u32 (.cells #[.slice ua1 V1.length uc1, .slice fa1 M1.length fc1] 25)))
        clear H317
        have H323 := Lib.hid (keep2 (al u32 (.cells #[.slice ua1 V1.length uc1, .slice fa1 M1.length fc1] 25)) H316.out)
        clear H316
        have H324 := Lib.hid (Cs.new u32 (u32.heap.size) #[.slice ua1 V1.length uc1, .slice fa1 M1.length fc1] 25 (by simp))
        by_cases hl20 : L.length < 4
        rotate_left
        · skip
          have g1 : decide ((L.length : Int) < 4) = false := decide_eq_false (by omega)
          have g2 : ¬ (L.length : Int) < 4 := by omega
          go_wp2
          go_meet
          exact ⟨la, lc, L, c, z, V, M, aa, ac, all, rfl, (by first | rfl | simp), Lib.hid HIZ.out.same, H318, H323⟩
        have g1 : decide ((L.length : Int) < 4) = true := decide_eq_true (by omega)
        have g2 : (L.length : Int) < 4 := by omega
        by_cases hz : E1 = 0
        rotate_left
        · skip
          have g3 : (E1 == 0) = false := by simpa using hz
          go_wp2
          go_meet
          exact ⟨la, lc, L, c, z, V, M, aa, ac, all, rfl, (by first | rfl | simp), Lib.hid HIZ.out.same, H318, H323⟩
        subst hz
        have HTR1 := Lib.hid (HIZ.out.sent HOA.out.1 HOA.out.2 hl20 HE1.out)
        rw [HV1.out, HM1.out] at HTR1
        have HL20 := Lib.hid hl20
        obtain ⟨W5, hW5⟩ : ∃ z9, (u32.alloc (.cells #[.slice ua1 V1.length uc1, .slice fa1 M1.length fc1] 25)) = z9 := ⟨_, rfl⟩
        have HW5 := Lib.hid hW5
        rw [hW5] at H318 H319 H320 H321 H322 H324 H323
        clear hW5
        go_upto_region 18 with fail
        rw [HW5.out]
        have x10 : W5.cell? ⟨(u32.heap.size), 0, none⟩ = some (.slice ua1 V1.length uc1) := H324.out.c 0 rfl
        have x11 : W5.cell? ⟨(u32.heap.size), 1, none⟩ = some (.slice fa1 M1.length fc1) := H324.out.c 1 rfl
        have z1 : (u32.heap.size) < W5.heap.size := H324.out.2.2
        have xX0 := (cs_of_box H319.out).c 0 rfl
        have xX1 := (cs_of_box H319.out).c 1 rfl
        have xXz := (cs_of_box H319.out).2.2
        have yX0 := (cs_of_box H319.out).f 0 (by simp)
        have yX1 := (cs_of_box H319.out).f 1 (by simp)
        go_upto_region 19 with fail
        have ht := H318.out.putB H322.out (fun _ => HFA.out) (fun _ => HFB.out)
        have ho := (putB_chg W5 kb (.slice ua1 V1.length uc1) (.slice fa1 M1.length fc1)).cs (show (u31.heap.size) ≠ kb from HOB.out) H321.out
        have hb := H323.out.trans (putB_below (w := W5) (.slice ua1 V1.length uc1) (.slice fa1 M1.length fc1) HLO.out.1)
        change Code.wp _ _ _ _ (putB W5 kb (.slice ua1 V1.length uc1) (.slice fa1 M1.length fc1))
        obtain ⟨W6, hW6⟩ : ∃ z9, (putB W5 kb (.slice ua1 V1.length uc1) (.slice fa1 M1.length fc1)) = z9 := ⟨_, rfl⟩
        rw [hW6] at ht ho hb ⊢
        have HT6 := Lib.hid ht
        have HO6 := Lib.hid ho
        have HB6 := Lib.hid hb
        clear ht ho hb hW6
        clear x10 x11 z1 xX0 xX1 xXz yX0 yX1
        have xO0 : W6.cell? ⟨(u31.heap.size), 0, none⟩ = some (.int .i64 oA) := HO6.out.c 0 rfl
        have xO1 : W6.cell? ⟨(u31.heap.size), 1, none⟩ = some (.int .i64 oB) := HO6.out.c 1 rfl
        have xO2 : W6.cell? ⟨(u31.heap.size), 2, none⟩ = some (.int .i64 0) := HO6.out.c 2 rfl
        have xO3 : W6.cell? ⟨(u31.heap.size), 3, none⟩ = some (.int .i64 oE) := HO6.out.c 3 rfl
        have zO : (u31.heap.size) < W6.heap.size := HO6.out.2.2
        have HA7 := Lib.hid (HT6.out.step (al W6 (.cells #[.int .i64 oA, .int .i64 oB, .int .i64 0, .int .i64 oE] 27)))
        have HB7 := Lib.hid (keep2 (al W6 (.cells #[.int .i64 oA, .int .i64 oB, .int .i64 0, .int .i64 oE] 27)) HB6.out)
        have HO7 := Lib.hid (HO6.out.alloc (.cells #[.int .i64 oA, .int .i64 oB, .int .i64 0, .int .i64 oE] 27))
        have HX7 := Lib.hid (BoxN.new W6 #[.int .i64 oA, .int .i64 oB, .int .i64 0, .int .i64 oE] 27)
        have HNB := Lib.hid (show ∀ j u, ([.int .i64 oA, .int .i64 oB, .int .i64 0, .int .i64 oE] : List Value)[j]? = some u → (W6.alloc (.cells #[.int .i64 oA, .int .i64 oB, .int .i64 0, .int .i64 oE] 27)).cell? ((⟨W6.heap.size, 0, none⟩ : Addr).add j) = some u from World.news_of_block HX7.out)
        obtain ⟨i0, hi0, hz0, hz1, hz2⟩ := info_parts od_info
        have hL9 : L.length ≤ 20 := by have := HL20.out; omega
        go_wp2_with (at_builtin; refine wpList_append_own_at _ rfl _ _ 23 rfl base 27 i0 _ 4 32 Try.underlying23 hi0 hz0 hz1 hz2 rfl (by decide) _ _ _ rfl HA7.out.row ⟨W6.heap.size, 0, none⟩ 1 1 [.int .i64 oA, .int .i64 oB, .int .i64 0, .int .i64 oE] rfl rfl HNB.out (by simp [Value.oneCell']) (by unfold maxLen; omega) (by omega) HA7.out.bs ?_; intro v8 w8 ho8 hg8 _ hd8; obtain ⟨la8, lc8, rfl⟩ := row_slice ho8; have HT8 := Lib.hid (wapp_wx (x := ⟨oA, oB, 0, oE⟩) HA7.out hg8 ho8 hd8); have HB8 := Lib.hid (row_below HB7.out HLB.out hg8 HA7.out.row HB7.out.size); have HO8 := Lib.hid (wapp_cs HA7.out.row hg8 HO7.out HOB2.out); clear ho8 hg8 hd8; have o0 := HO8.out.c 0 rfl; have o1 := HO8.out.c 1 rfl; have o2 := HO8.out.c 2 rfl; have o3 := HO8.out.c 3 rfl; have oz := HO8.out.2.2; have q0 := HT8.out.zb.c 0 rfl; have q1 := HT8.out.zb.c 1 rfl; have q2 := HT8.out.zb.c 2 rfl; have q3 := HT8.out.zb.c 3 rfl; have p0 := HT8.out.zb.f 0 (by simp); have p1 := HT8.out.zb.f 1 (by simp); have p2 := HT8.out.zb.f 2 (by simp); have p3 := HT8.out.zb.f 3 (by simp); have qz := HT8.out.zb.2.2)
        have hcz := Cs.set (Cs.set (Cs.set (Cs.set HT8.out.zb 0 (by simp) (.int .i64 oA) rfl) 1 (by simp) (.int .i64 oB) rfl) 2 (by simp) (.int .i64 0) rfl) 3 (by simp) (.int .i64 oE) (vs' := #[.int .i64 oA, .int .i64 oB, .int .i64 0, .int .i64 oE]) rfl
        have hcg := ((((Chg.of (k := kl) (Below.refl _ w8)).set 0 (.int .i64 oA)).set 1 (.int .i64 oB)).set 2 (.int .i64 0)).set 3 (.int .i64 oE)
        have ht9 := HT8.out.setZ (z' := ⟨oA, oB, 0, oE⟩) hcg hcz
        have hb9 := HB8.out.trans (hcg.below HLO.out.2 HB8.out.size)
        go_meet
        exact ⟨la8, lc8, L ++ [⟨oA, oB, 0, oE⟩], c, ⟨oA, oB, 0, oE⟩, V1, M1, aa, ac, all, rfl, (by first | rfl | simp), HTR1, Lib.hid ht9, Lib.hid hb9⟩
      · skip
        obtain ⟨ua, uc, fa, fc, hx9, hr9, hf8, hf9⟩ := HT.out.bb
        have H301 := Lib.hid (hx9)
        have H302 := Lib.hid (hr9)
        clear hx9 hr9 hf8 hf9
        have xZ0 := HT.out.zb.c 0 rfl
        have xZ1 := HT.out.zb.c 1 rfl
        have xZ2 := HT.out.zb.c 2 rfl
        have xZ3 := HT.out.zb.c 3 rfl
        have xZz := HT.out.zb.2.2
        go_wp2_with fail
        refine (made_x z.a z.b z.c z.d (yv / 4) HIZ.out.za HIZ.out.zb HN4.out _).mono ?_
        rintro e u31 ⟨oA, oB, oE, rfl, HOA, b31⟩
        clear xZ0 xZ1 xZ2 xZ3 xZz
        have H303 := Lib.hid (HT.out.step b31)
        clear HT
        have H304 := Lib.hid (H301.out.step b31)
        clear H301
        have H305 := Lib.hid (H302.out.step b31)
        clear H302
        have H306 := Lib.hid (keep2 b31 HW.out)
        clear HW
        clear b31
        have HOB := Lib.hid (show u31.heap.size ≠ kb by have := (cs_of_box H304.out).2.2; omega)
        have HOB2 := Lib.hid (show ∀ g o, la = some ⟨g, o, none⟩ → g ≠ u31.heap.size from fun g o e => by have := row_lt H303.out.row g o e; omega)
        have H307 := Lib.hid (H303.out.step (al u31 (.cells #[.int .i64 oA, .int .i64 oB, .int .i64 0, .int .i64 oE] 27)))
        clear H303
        have H308 := Lib.hid (H304.out.step (al u31 (.cells #[.int .i64 oA, .int .i64 oB, .int .i64 0, .int .i64 oE] 27)))
        clear H304
        have H309 := Lib.hid (H305.out.step (al u31 (.cells #[.int .i64 oA, .int .i64 oB, .int .i64 0, .int .i64 oE] 27)))
        clear H305
        have H310 := Lib.hid (keep2 (al u31 (.cells #[.int .i64 oA, .int .i64 oB, .int .i64 0, .int .i64 oE] 27)) H306.out)
        clear H306
        have H311 := Lib.hid (Cs.new u31 (u31.heap.size) #[.int .i64 oA, .int .i64 oB, .int .i64 0, .int .i64 oE] 27 (by simp))
        obtain ⟨E1, hE1⟩ : ∃ z9, snE V M ⟨oA, oB, 0, oE⟩ = z9 := ⟨_, rfl⟩
        obtain ⟨V1, hV1⟩ : ∃ z9, rV E1 (M ++ [⟨oA, oB, 0, oE⟩]) = z9 := ⟨_, rfl⟩
        obtain ⟨M1, hM1⟩ : ∃ z9, rM E1 (M ++ [⟨oA, oB, 0, oE⟩]) = z9 := ⟨_, rfl⟩
        have HE1 := Lib.hid hE1
        have HV1 := Lib.hid hV1
        have HM1 := Lib.hid hM1
        clear hE1 hV1 hM1
        have xX0 := (cs_of_box H308.out).c 0 rfl
        have xX1 := (cs_of_box H308.out).c 1 rfl
        have xXz := (cs_of_box H308.out).2.2
        have xO0 : (u31.alloc (.cells #[.int .i64 oA, .int .i64 oB, .int .i64 0, .int .i64 oE] 27)).cell? ⟨(u31.heap.size), 0, none⟩ = some (.int .i64 oA) := H311.out.c 0 rfl
        have xO1 : (u31.alloc (.cells #[.int .i64 oA, .int .i64 oB, .int .i64 0, .int .i64 oE] 27)).cell? ⟨(u31.heap.size), 1, none⟩ = some (.int .i64 oB) := H311.out.c 1 rfl
        have xO2 : (u31.alloc (.cells #[.int .i64 oA, .int .i64 oB, .int .i64 0, .int .i64 oE] 27)).cell? ⟨(u31.heap.size), 2, none⟩ = some (.int .i64 0) := H311.out.c 2 rfl
        have xO3 : (u31.alloc (.cells #[.int .i64 oA, .int .i64 oB, .int .i64 0, .int .i64 oE] 27)).cell? ⟨(u31.heap.size), 3, none⟩ = some (.int .i64 oE) := H311.out.c 3 rfl
        have zO : (u31.heap.size) < (u31.alloc (.cells #[.int .i64 oA, .int .i64 oB, .int .i64 0, .int .i64 oE] 27)).heap.size := H311.out.2.2
        go_wp2_with fail
        have HP := Lib.hid (And.intro (row_lt H307.out.row) H307.out.zb.2.2)
        refine (sent_f ⟨oA, oB, 0, oE⟩ HE1.out HV1.out HM1.out ua uc fa fc _ H309.out HIZ.out.lens.1 HIZ.out.lens.2).mono ?_
        rintro e u32 ⟨ua1, uc1, fa1, fc1, rfl, b32, hr1, hf1, hf2⟩
        clear xX0 xX1 xXz xO0 xO1 xO2 xO3 zO
        have H312 := Lib.hid (H307.out.step b32)
        clear H307
        have H313 := Lib.hid (H308.out.step b32)
        clear H308
        have H314 := Lib.hid (H309.out.step b32)
        clear H309
        have H315 := Lib.hid (H311.out.step b32)
        clear H311
        have H316 := Lib.hid (keep2 b32 H310.out)
        clear H310
        clear b32
        have HFA := Lib.hid (far_fresh hf1 HP.out.1 HP.out.2 HP.out.2)
        have HFB := Lib.hid (far_fresh hf2 HP.out.1 HP.out.2 HP.out.2)
        clear hf1 hf2
        have H317 := Lib.hid (hr1)
        clear hr1
        have H318 := Lib.hid (H312.out.step (al u32 (.cells #[.slice ua1 V1.length uc1, .slice fa1 M1.length fc1] 25)))
        clear H312
        have H319 := Lib.hid (H313.out.step (al u32 (.cells #[.slice ua1 V1.length uc1, .slice fa1 M1.length fc1] 25)))
        clear H313
        have H320 := Lib.hid (H314.out.step (al u32 (.cells #[.slice ua1 V1.length uc1, .slice fa1 M1.length fc1] 25)))
        clear H314
        have H321 := Lib.hid (H315.out.step (al u32 (.cells #[.slice ua1 V1.length uc1, .slice fa1 M1.length fc1] 25)))
        clear H315
        have H322 := Lib.hid (H317.out.step (al u32 (.cells #[.slice ua1 V1.length uc1, .slice fa1 M1.length fc1] 25)))
        clear H317
        have H323 := Lib.hid (keep2 (al u32 (.cells #[.slice ua1 V1.length uc1, .slice fa1 M1.length fc1] 25)) H316.out)
        clear H316
        have H324 := Lib.hid (Cs.new u32 (u32.heap.size) #[.slice ua1 V1.length uc1, .slice fa1 M1.length fc1] 25 (by simp))
        by_cases hl20 : L.length < 4
        rotate_left
        · skip
          have g1 : decide ((L.length : Int) < 4) = false := decide_eq_false (by omega)
          have g2 : ¬ (L.length : Int) < 4 := by omega
          go_wp2
          go_meet
          exact ⟨la, lc, L, c, z, V, M, aa, ac, all, rfl, (by first | rfl | simp), Lib.hid HIZ.out.same, H318, H323⟩
        have g1 : decide ((L.length : Int) < 4) = true := decide_eq_true (by omega)
        have g2 : (L.length : Int) < 4 := by omega
        by_cases hz : E1 = 0
        rotate_left
        · skip
          have g3 : (E1 == 0) = false := by simpa using hz
          go_wp2
          go_meet
          exact ⟨la, lc, L, c, z, V, M, aa, ac, all, rfl, (by first | rfl | simp), Lib.hid HIZ.out.same, H318, H323⟩
        subst hz
        have HTR1 := Lib.hid (HIZ.out.sent HOA.out.1 HOA.out.2 hl20 HE1.out)
        rw [HV1.out, HM1.out] at HTR1
        have HL20 := Lib.hid hl20
        obtain ⟨W5, hW5⟩ : ∃ z9, (u32.alloc (.cells #[.slice ua1 V1.length uc1, .slice fa1 M1.length fc1] 25)) = z9 := ⟨_, rfl⟩
        have HW5 := Lib.hid hW5
        rw [hW5] at H318 H319 H320 H321 H322 H324 H323
        clear hW5
        go_upto_region 18 with fail
        rw [HW5.out]
        have x10 : W5.cell? ⟨(u32.heap.size), 0, none⟩ = some (.slice ua1 V1.length uc1) := H324.out.c 0 rfl
        have x11 : W5.cell? ⟨(u32.heap.size), 1, none⟩ = some (.slice fa1 M1.length fc1) := H324.out.c 1 rfl
        have z1 : (u32.heap.size) < W5.heap.size := H324.out.2.2
        have xX0 := (cs_of_box H319.out).c 0 rfl
        have xX1 := (cs_of_box H319.out).c 1 rfl
        have xXz := (cs_of_box H319.out).2.2
        have yX0 := (cs_of_box H319.out).f 0 (by simp)
        have yX1 := (cs_of_box H319.out).f 1 (by simp)
        go_upto_region 19 with fail
        have ht := H318.out.putB H322.out (fun _ => HFA.out) (fun _ => HFB.out)
        have ho := (putB_chg W5 kb (.slice ua1 V1.length uc1) (.slice fa1 M1.length fc1)).cs (show (u31.heap.size) ≠ kb from HOB.out) H321.out
        have hb := H323.out.trans (putB_below (w := W5) (.slice ua1 V1.length uc1) (.slice fa1 M1.length fc1) HLO.out.1)
        change Code.wp _ _ _ _ (putB W5 kb (.slice ua1 V1.length uc1) (.slice fa1 M1.length fc1))
        obtain ⟨W6, hW6⟩ : ∃ z9, (putB W5 kb (.slice ua1 V1.length uc1) (.slice fa1 M1.length fc1)) = z9 := ⟨_, rfl⟩
        rw [hW6] at ht ho hb ⊢
        have HT6 := Lib.hid ht
        have HO6 := Lib.hid ho
        have HB6 := Lib.hid hb
        clear ht ho hb hW6
        clear x10 x11 z1 xX0 xX1 xXz yX0 yX1
        have xO0 : W6.cell? ⟨(u31.heap.size), 0, none⟩ = some (.int .i64 oA) := HO6.out.c 0 rfl
        have xO1 : W6.cell? ⟨(u31.heap.size), 1, none⟩ = some (.int .i64 oB) := HO6.out.c 1 rfl
        have xO2 : W6.cell? ⟨(u31.heap.size), 2, none⟩ = some (.int .i64 0) := HO6.out.c 2 rfl
        have xO3 : W6.cell? ⟨(u31.heap.size), 3, none⟩ = some (.int .i64 oE) := HO6.out.c 3 rfl
        have zO : (u31.heap.size) < W6.heap.size := HO6.out.2.2
        have HA7 := Lib.hid (HT6.out.step (al W6 (.cells #[.int .i64 oA, .int .i64 oB, .int .i64 0, .int .i64 oE] 27)))
        have HB7 := Lib.hid (keep2 (al W6 (.cells #[.int .i64 oA, .int .i64 oB, .int .i64 0, .int .i64 oE] 27)) HB6.out)
        have HO7 := Lib.hid (HO6.out.alloc (.cells #[.int .i64 oA, .int .i64 oB, .int .i64 0, .int .i64 oE] 27))
        have HX7 := Lib.hid (BoxN.new W6 #[.int .i64 oA, .int .i64 oB, .int .i64 0, .int .i64 oE] 27)
        have HNB := Lib.hid (show ∀ j u, ([.int .i64 oA, .int .i64 oB, .int .i64 0, .int .i64 oE] : List Value)[j]? = some u → (W6.alloc (.cells #[.int .i64 oA, .int .i64 oB, .int .i64 0, .int .i64 oE] 27)).cell? ((⟨W6.heap.size, 0, none⟩ : Addr).add j) = some u from World.news_of_block HX7.out)
        obtain ⟨i0, hi0, hz0, hz1, hz2⟩ := info_parts od_info
        have hL9 : L.length ≤ 20 := by have := HL20.out; omega
        go_wp2_with (at_builtin; refine wpList_append_own_at _ rfl _ _ 23 rfl base 27 i0 _ 4 32 Try.underlying23 hi0 hz0 hz1 hz2 rfl (by decide) _ _ _ rfl HA7.out.row ⟨W6.heap.size, 0, none⟩ 1 1 [.int .i64 oA, .int .i64 oB, .int .i64 0, .int .i64 oE] rfl rfl HNB.out (by simp [Value.oneCell']) (by unfold maxLen; omega) (by omega) HA7.out.bs ?_; intro v8 w8 ho8 hg8 _ hd8; obtain ⟨la8, lc8, rfl⟩ := row_slice ho8; have HT8 := Lib.hid (wapp_wx (x := ⟨oA, oB, 0, oE⟩) HA7.out hg8 ho8 hd8); have HB8 := Lib.hid (row_below HB7.out HLB.out hg8 HA7.out.row HB7.out.size); have HO8 := Lib.hid (wapp_cs HA7.out.row hg8 HO7.out HOB2.out); clear ho8 hg8 hd8; have o0 := HO8.out.c 0 rfl; have o1 := HO8.out.c 1 rfl; have o2 := HO8.out.c 2 rfl; have o3 := HO8.out.c 3 rfl; have oz := HO8.out.2.2; have q0 := HT8.out.zb.c 0 rfl; have q1 := HT8.out.zb.c 1 rfl; have q2 := HT8.out.zb.c 2 rfl; have q3 := HT8.out.zb.c 3 rfl; have p0 := HT8.out.zb.f 0 (by simp); have p1 := HT8.out.zb.f 1 (by simp); have p2 := HT8.out.zb.f 2 (by simp); have p3 := HT8.out.zb.f 3 (by simp); have qz := HT8.out.zb.2.2)
        have hcz := Cs.set (Cs.set (Cs.set (Cs.set HT8.out.zb 0 (by simp) (.int .i64 oA) rfl) 1 (by simp) (.int .i64 oB) rfl) 2 (by simp) (.int .i64 0) rfl) 3 (by simp) (.int .i64 oE) (vs' := #[.int .i64 oA, .int .i64 oB, .int .i64 0, .int .i64 oE]) rfl
        have hcg := ((((Chg.of (k := kl) (Below.refl _ w8)).set 0 (.int .i64 oA)).set 1 (.int .i64 oB)).set 2 (.int .i64 0)).set 3 (.int .i64 oE)
        have ht9 := HT8.out.setZ (z' := ⟨oA, oB, 0, oE⟩) hcg hcz
        have hb9 := HB8.out.trans (hcg.below HLO.out.2 HB8.out.size)
        go_meet
        exact ⟨la8, lc8, L ++ [⟨oA, oB, 0, oE⟩], c, ⟨oA, oB, 0, oE⟩, V1, M1, aa, ac, all, rfl, (by first | rfl | simp), HTR1, Lib.hid ht9, Lib.hid hb9⟩
      · skip
        obtain ⟨ua, uc, fa, fc, hx9, hr9, hf8, hf9⟩ := HT.out.bb
        have H301 := Lib.hid (hx9)
        have H302 := Lib.hid (hr9)
        clear hx9 hr9 hf8 hf9
        by_cases hlp : 0 < L.length
        rotate_left
        · skip
          have g1 : decide ((0 : Int) < (L.length : Int)) = false := decide_eq_false (by omega)
          have g2 : ¬ (0 : Int) < (L.length : Int) := by omega
          have g3 : ¬ 0 < L.length := by omega
          go_wp2
          go_meet
          exact ⟨la, lc, L, c, z, V, M, aa, ac, all, rfl, (by first | rfl | simp), Lib.hid HIZ.out.same, HT, HW⟩
        obtain ⟨k, hk, hkl⟩ := mod_nat HN4.out.1 hlp
        have HKL := Lib.hid hkl
        have HKM := Lib.hid hk
        have HKT := Lib.hid (show (yv / 4).tmod (L.length : Int) = k by rw [Int.tmod_eq_emod_of_nonneg HN4.out.1]; exact hk)
        have HK4 := Lib.hid (show k ≤ 40 by have := HIZ.out.len; omega)
        have g1 : decide ((0 : Int) < (L.length : Int)) = true := decide_eq_true (by omega)
        have g2 : (0 : Int) < (L.length : Int) := by omega
        have g3 : ¬ (L.length : Int) = 0 := by omega
        have g4 : ¬ L = [] := by intro e; rw [e] at hlp; simp at hlp
        have g5 : ((L.length : Int) == 0) = false := by simp; exact g4
        have HG3 := Lib.hid (And.intro g3 (And.intro g4 g5))
        have HLP := Lib.hid hlp
        clear hkl
        have hkt := HKT.out
        have hn1 := HN4.out.1
        go_wp2_with fail
        have HT00 := HT
        refine (confirmed_w (.slice aa all.length ac) all k _ HT.out.al (by have := HIZ.out.lenA; omega) HIZ.out.bit HK4.out).mono ?_
        rintro e u31 ⟨ru, rfl, hru, b31⟩
        have H303 := Lib.hid (HT.out.step b31)
        clear HT
        have H304 := Lib.hid (H301.out.step b31)
        clear H301
        have H305 := Lib.hid (H302.out.step b31)
        clear H302
        have H306 := Lib.hid (keep2 b31 HW.out)
        clear HW
        clear b31
        obtain ⟨FL, hFL⟩ : ∃ z9, all.filter (fun x : Wo => x.D.testBit k) = z9 := ⟨_, rfl⟩
        rw [hFL] at hru
        obtain ⟨ra, rc, rfl⟩ := row_slice hru
        have HRF := Lib.hid (row_far HT00.out hru)
        have HFL := Lib.hid hFL
        have HRW := Lib.hid (wos_of_row rfl hru)
        clear hru hFL HT00
        go_upto_region 25 with fail
        clear g1 g2 g3 g4 g5 hlp hr4 y1 y2 hk hkt hn1
        obtain ⟨W6, hW6⟩ : ∃ z9, u31 = z9 := ⟨_, rfl⟩
        rw [hW6] at H303 H304 H305 HRW H306 ⊢
        clear hW6
        obtain ⟨b2, o2, ela, hyy⟩ : ∃ b2 o2, la = some (⟨b2, o2, none⟩ : Addr) ∧ W6.cell? ⟨b2, o2 + k * 4, none⟩ = some (.int .i64 (L.getD k zO).a) := by
          obtain ⟨a2, cc2, hv2, -, -, hcs2⟩ := ods_of_row rfl H303.out.row
          have ea : la = a2 := by simp at hv2; exact hv2.1
          obtain ⟨b2, o2, hx, hx2⟩ := hcs2 (by intro e; have := HKL.out; rw [e] at this; simp at this)
          exact ⟨b2, o2, ea.trans hx, (hx2 k _ (od_get HKL.out)).1⟩
        have HYY := Lib.hid hyy
        clear hyy
        subst ela
        obtain ⟨qa, hqa⟩ : ∃ z9, (L.getD k zO).a = z9 := ⟨_, rfl⟩
        obtain ⟨EE, hE2⟩ : ∃ z9, cnE V M qa = z9 := ⟨_, rfl⟩
        obtain ⟨V2, hV2⟩ : ∃ z9, rV EE (cfM qa M) = z9 := ⟨_, rfl⟩
        obtain ⟨M2, hM2⟩ : ∃ z9, rM EE (cfM qa M) = z9 := ⟨_, rfl⟩
        rw [hqa] at HYY
        have HCF := Lib.hid (fun (h9 : EE = 0) (h8 : FL ≠ []) => HIZ.out.conf HKL.out (by rw [hqa, hE2]; exact h9) (by rw [HFL.out]; exact h8))
        have HCL := Lib.hid (fun (h9 : EE ≠ 0) (h8 : FL ≠ []) => HIZ.out.late HKL.out (by rw [hqa, hE2]; exact h9) (by rw [HFL.out]; exact h8))
        rw [HFL.out] at HCL
        rw [hqa, HFL.out] at HCF
        have HE2 := Lib.hid hE2
        have HV2 := Lib.hid hV2
        have HM2 := Lib.hid hM2
        clear hE2 hV2 hM2 hqa
        have HP := Lib.hid (And.intro (row_lt H303.out.row) H303.out.zb.2.2)
        go_cut [17, 18] from 92 to 101 (fun p1 p2 wc => ∃ k : Nat, p1 = .pointer (some ⟨k, 0, none⟩) ∧ p2 = .int .i64 EE ∧ W6.heap.size ≤ k ∧ BF W6.heap.size V2 M2 k wc ∧ Below W6.heap.size W6 wc)
        case first =>
          obtain ⟨lit, hlit⟩ : ∃ lit : (Nat → Value) → Act, lit = fun vs => { tmps := List.toArray (Value.int IntKind.u8 st :: Value.slice (some { block := bk, off := ok }) l.length sc :: undef :: undef :: u4 :: Value.bool true :: Value.pointer (some { block := kb, off := 0 }) :: Value.slice aa all.length ac :: Value.slice (some { block := b2, off := o2 }) L.length lc :: Value.pointer (some { block := kl, off := 0 }) :: Value.int IntKind.i64 (i : Int) :: Value.int IntKind.i64 (yv / 4) :: u12 :: u13 :: u14 :: Value.int IntKind.i64 (k : Int) :: Value.slice ra FL.length rc :: vs 10 :: vs 12 :: u19 :: u20 :: u21 :: u22 :: Value.bool true :: Value.slice (some { block := bk, off := ok }) l.length sc :: Value.int IntKind.i64 (l.length : Int) :: Value.bool (decide ((12 : Int) < (l.length : Int))) :: undef :: Value.int IntKind.u8 st :: Value.int IntKind.i64 st :: Value.int IntKind.i64 (st % 4) :: Value.agg #[Value.slice ua0 V0.length uc0, Value.slice fa0 M0.length fc0] :: Value.int IntKind.u8 st :: Value.int IntKind.i64 st :: Value.int IntKind.i64 (st % 4) :: Value.agg #[Value.int IntKind.i64 (st % 4), Value.int IntKind.i64 0, Value.int IntKind.i64 (-1)] :: Value.slice (some { block := kw, off := 0 }) 1 1 :: Value.agg #[Value.int IntKind.i64 (-1), Value.int IntKind.i64 0, Value.int IntKind.i64 0, Value.int IntKind.i64 0] :: Value.int IntKind.i64 (i : Int) :: Value.slice (some { block := bk, off := ok }) l.length sc :: Value.int IntKind.i64 (l.length : Int) :: Value.bool true :: u42 :: u43 :: Value.slice (some { block := bk, off := ok }) l.length sc :: Value.int IntKind.i64 (i : Int) :: Value.pointer (some { block := bk, off := ok + i }) :: Value.int IntKind.u16 yv :: Value.int IntKind.i64 yv :: Value.int IntKind.i64 (yv / 4) :: Value.slice (some { block := bk, off := ok }) l.length sc :: Value.int IntKind.i64 (i : Int) :: Value.pointer (some { block := bk, off := ok + i }) :: Value.int IntKind.u16 yv :: Value.int IntKind.u16 2 :: Value.bool false :: Value.bool false :: Value.bool false :: u58 :: u59 :: u60 :: u61 :: u62 :: u63 :: u64 :: u65 :: u66 :: u67 :: u68 :: u69 :: u70 :: u71 :: u72 :: u73 :: u74 :: u75 :: u76 :: u77 :: u78 :: u79 :: Value.bool true :: Value.bool true :: Value.slice (some { block := b2, off := o2 }) L.length lc :: Value.int IntKind.i64 (L.length : Int) :: Value.bool true :: Value.int IntKind.i64 (yv / 4) :: Value.slice (some { block := b2, off := o2 }) L.length lc :: Value.int IntKind.i64 (L.length : Int) :: Value.int IntKind.i64 (k : Int) :: Value.slice aa all.length ac :: Value.int IntKind.i64 (k : Int) :: Value.slice ra FL.length rc :: vs 7 :: vs 0 :: vs 1 :: vs 2 :: vs 3 :: vs 4 :: vs 5 :: vs 6 :: vs 8 :: vs 9 :: u102 :: u103 :: u104 :: u105 :: u106 :: u107 :: u108 :: u109 :: u110 :: u111 :: u112 :: u113 :: u114 :: u115 :: u116 :: u117 :: u118 :: u119 :: u120 :: u121 :: u122 :: u123 :: u124 :: u125 :: u126 :: u127 :: u128 :: u129 :: u130 :: u131 :: u132 :: u133 :: u134 :: u135 :: u136 :: u137 :: u138 :: u139 :: u140 :: u141 :: u142 :: u143 :: u144 :: u145 :: u146 :: u147 :: u148 :: u149 :: u150 :: u151 :: undef :: []), defers := [] } := ⟨_, rfl⟩
          have HLIT := Lib.hid hlit
          clear hlit
          obtain ⟨val, hval⟩ : ∃ val : List Value, val = [.agg #[.slice ua V.length uc, .slice fa M.length fc], .slice (some ⟨b2, o2, none⟩) L.length lc, .int .i64 (k : Int), .pointer (some ⟨b2, o2 + k * 4, none⟩), .pointer (some ⟨b2, o2 + k * 4, none⟩), .int .i64 qa, undef, undef, undef, .int .i64 EE, undef, undef, .int .i64 EE] := ⟨_, rfl⟩
          have E0 := Lib.hid (show val.getD 0 undef = .agg #[.slice ua V.length uc, .slice fa M.length fc] by rw [hval]; rfl)
          have E1 := Lib.hid (show val.getD 1 undef = .slice (some ⟨b2, o2, none⟩) L.length lc by rw [hval]; rfl)
          have E2 := Lib.hid (show val.getD 2 undef = .int .i64 (k : Int) by rw [hval]; rfl)
          have E3 := Lib.hid (show val.getD 3 undef = .pointer (some ⟨b2, o2 + k * 4, none⟩) by rw [hval]; rfl)
          have E4 := Lib.hid (show val.getD 4 undef = .pointer (some ⟨b2, o2 + k * 4, none⟩) by rw [hval]; rfl)
          have E5 := Lib.hid (show val.getD 5 undef = .int .i64 qa by rw [hval]; rfl)
          have E9 := Lib.hid (show val.getD 9 undef = .int .i64 EE by rw [hval]; rfl)
          have E12 := Lib.hid (show val.getD 12 undef = .int .i64 EE by rw [hval]; rfl)
          clear hval
          obtain ⟨G, hG0⟩ : ∃ G : Bool → Nat → Value → World → Prop, G = (fun bq iq vq ww => (iq = 6 → QtF W6.heap.size V2 M2 EE bq vq ww) ∧ (iq = 7 → QtF W6.heap.size V2 M2 EE bq vq ww) ∧ (iq = 8 → QaF W6.heap.size V2 M2 bq vq ww) ∧ (iq = 10 → QkF W6.heap.size V2 M2 bq vq ww) ∧ (iq ≠ 6 → iq ≠ 7 → iq ≠ 8 → iq ≠ 10 → iq ≠ 11 → vq = val.getD iq undef)) := ⟨_, rfl⟩
          have HG := Lib.hid hG0
          clear hG0
          refine region_inv (NS lit 11 (fun p q => (p == 11 && q == 0) || (p == 11 && q == 1) || (p == 11 && q == 2) || (p == 11 && q == 3) || (p == 11 && q == 4) || (p == 11 && q == 5) || (p == 11 && q == 6) || (p == 11 && q == 7) || (p == 11 && q == 8) || (p == 11 && q == 10)) G fun bq wv => (bq = false → Below W6.heap.size W6 wv) ∧ (bq = true → Below W6.heap.size W6 wv)) (by kernel_rfl) (by decide +kernel) ?_ ?_ ?_
          · exact NS.start (fun i => ([u93, u94, u95, u96, u97, u98, u99, u92, u100, u101, u17, undef, u18] : List Value).getD i undef) (by rw [HLIT.out]; rfl) ⟨fun _ => below_drew _ _, fun h => (by cases h)⟩
          · refine ⟨?_, ?_, ?_, ?_, ?_, ?_, ?_, ?_, ?_, ?_, ?_, ?_, ?_, trivial⟩
            · intro bf ac wv hfb haf hJ K' hK
              obtain ⟨vs, rfl, ja, hB, j4⟩ := hJ
              replace hK := Lib.hid hK
              rw [HG.out] at j4
              replace j4 := Lib.hid (And.intro ja j4)
              replace hB := Lib.hid hB
              clear ja haf
              have hMM : Below W6.heap.size W6 wv := by
                cases hbb : bf 11 with
                | false => exact hB.out.1 hbb
                | true => exact hB.out.2 hbb
              have xx := (cs_of_box H304.out).step hMM
              have xx0 := xx.c 0 rfl
              have xx1 := xx.c 1 rfl
              have xxz := xx.2.2
              clear xx
              rw [HLIT.out]
              go_simp
              exact hK.out _ _ (NS.next (wv := wv) (vs := vs) 0 (by omega) (fun q h => absurd h (by simp)) (x := .agg #[.slice ua V.length uc, .slice fa M.length fc]) (by rw [HLIT.out]; rfl) (by rw [HG.out]; exact j4.out) hB.out (by rw [HG.out]; exact fun _ _ h => h) (by rw [HG.out]; exact ⟨fun h => absurd h (by decide), fun h => absurd h (by decide), fun h => absurd h (by decide), fun h => absurd h (by decide), fun _ _ _ _ _ => E0.out.symm⟩))
            · intro bf ac wv hfb haf hJ K' hK
              obtain ⟨vs, rfl, ja, hB, j4⟩ := hJ
              replace hK := Lib.hid hK
              rw [HG.out] at j4
              replace j4 := Lib.hid (And.intro ja j4)
              replace hB := Lib.hid hB
              clear ja haf
              rw [HLIT.out]
              go_simp
              exact hK.out _ _ (NS.next (wv := wv) (vs := vs) 1 (by omega) (fun q h => absurd h (by simp)) (x := .slice (some ⟨b2, o2, none⟩) L.length lc) (by rw [HLIT.out]; rfl) (by rw [HG.out]; exact j4.out) hB.out (by rw [HG.out]; exact fun _ _ h => h) (by rw [HG.out]; exact ⟨fun h => absurd h (by decide), fun h => absurd h (by decide), fun h => absurd h (by decide), fun h => absurd h (by decide), fun _ _ _ _ _ => E1.out.symm⟩))
            · intro bf ac wv hfb haf hJ K' hK
              obtain ⟨vs, rfl, ja, hB, j4⟩ := hJ
              replace hK := Lib.hid hK
              rw [HG.out] at j4
              replace j4 := Lib.hid (And.intro ja j4)
              replace hB := Lib.hid hB
              clear ja haf
              rw [HLIT.out]
              go_simp
              exact hK.out _ _ (NS.next (wv := wv) (vs := vs) 2 (by omega) (fun q h => absurd h (by simp)) (x := .int .i64 (k : Int)) (by rw [HLIT.out]; rfl) (by rw [HG.out]; exact j4.out) hB.out (by rw [HG.out]; exact fun _ _ h => h) (by rw [HG.out]; exact ⟨fun h => absurd h (by decide), fun h => absurd h (by decide), fun h => absurd h (by decide), fun h => absurd h (by decide), fun _ _ _ _ _ => E2.out.symm⟩))
            · intro bf ac wv hfb haf hJ K' hK
              obtain ⟨vs, rfl, ja, hB, j4⟩ := hJ
              replace hK := Lib.hid hK
              simp [Region.binds] at haf
              rw [HG.out] at j4
              have e1 := ((j4 1 (by simp [haf])).2.2.2.2 (by decide) (by decide) (by decide) (by decide) (by decide)).trans E1.out
              have e2 := ((j4 2 (by simp [haf])).2.2.2.2 (by decide) (by decide) (by decide) (by decide) (by decide)).trans E2.out
              replace j4 := Lib.hid (And.intro ja j4)
              replace hB := Lib.hid hB
              clear ja haf
              have hkl : (k : Int) < (L.length : Int) := by have := HKL.out; omega
              rw [HLIT.out]
              go_simp
              exact hK.out _ _ (NS.next (wv := wv) (vs := vs) 3 (by omega) (fun q h => absurd h (by simp)) (x := .pointer (some ⟨b2, o2 + k * 4, none⟩)) (by rw [HLIT.out]; simp only [upv, e1, e2, Nat.reduceBEq, cond_true, cond_false]) (by rw [HG.out]; exact j4.out) hB.out (by rw [HG.out]; exact fun _ _ h => h) (by rw [HG.out]; exact ⟨fun h => absurd h (by decide), fun h => absurd h (by decide), fun h => absurd h (by decide), fun h => absurd h (by decide), fun _ _ _ _ _ => E3.out.symm⟩))
            · intro bf ac wv hfb haf hJ K' hK
              obtain ⟨vs, rfl, ja, hB, j4⟩ := hJ
              replace hK := Lib.hid hK
              simp [Region.binds] at haf
              rw [HG.out] at j4
              have e3 := ((j4 3 (by simp [haf])).2.2.2.2 (by decide) (by decide) (by decide) (by decide) (by decide)).trans E3.out
              replace j4 := Lib.hid (And.intro ja j4)
              replace hB := Lib.hid hB
              clear ja haf
              rw [HLIT.out]
              go_simp
              exact hK.out _ _ (NS.next (wv := wv) (vs := vs) 4 (by omega) (fun q h => absurd h (by simp)) (x := .pointer (some ⟨b2, o2 + k * 4, none⟩)) (by rw [HLIT.out]; simp only [upv, e3, Nat.reduceBEq, cond_true, cond_false]) (by rw [HG.out]; exact j4.out) hB.out (by rw [HG.out]; exact fun _ _ h => h) (by rw [HG.out]; exact ⟨fun h => absurd h (by decide), fun h => absurd h (by decide), fun h => absurd h (by decide), fun h => absurd h (by decide), fun _ _ _ _ _ => E4.out.symm⟩))
            · intro bf ac wv hfb haf hJ K' hK
              obtain ⟨vs, rfl, ja, hB, j4⟩ := hJ
              replace hK := Lib.hid hK
              simp [Region.binds] at haf
              rw [HG.out] at j4
              have e4 := ((j4 4 (by simp [haf])).2.2.2.2 (by decide) (by decide) (by decide) (by decide) (by decide)).trans E4.out
              replace j4 := Lib.hid (And.intro ja j4)
              replace hB := Lib.hid hB
              clear ja haf
              have hMM : Below W6.heap.size W6 wv := by
                cases hbb : bf 11 with
                | false => exact hB.out.1 hbb
                | true => exact hB.out.2 hbb
              have yA := keep1 hMM HYY.out
              have yAz := World.block_lt_of_cell? _ _ yA
              rw [HLIT.out]
              go_simp
              exact hK.out _ _ (NS.next (wv := wv) (vs := vs) 5 (by omega) (fun q h => absurd h (by simp)) (x := .int .i64 qa) (by rw [HLIT.out]; simp only [upv, e4, Nat.reduceBEq, cond_true, cond_false]) (by rw [HG.out]; exact j4.out) hB.out (by rw [HG.out]; exact fun _ _ h => h) (by rw [HG.out]; exact ⟨fun h => absurd h (by decide), fun h => absurd h (by decide), fun h => absurd h (by decide), fun h => absurd h (by decide), fun _ _ _ _ _ => E5.out.symm⟩))
            · intro bf ac wv hfb haf hJ K' hK
              obtain ⟨vs, rfl, ja, hB, j4⟩ := hJ
              replace hK := Lib.hid hK
              simp [Region.binds] at haf
              rw [HG.out] at j4
              have e0 := ((j4 0 (by simp [haf])).2.2.2.2 (by decide) (by decide) (by decide) (by decide) (by decide)).trans E0.out
              have e5 := ((j4 5 (by simp [haf])).2.2.2.2 (by decide) (by decide) (by decide) (by decide) (by decide)).trans E5.out
              have hd : bf 11 = false := by
                cases h : bf 11
                · rfl
                · exact absurd ((ja 11 6 rfl h).symm.trans hfb) (by simp)
              have hM := Lib.hid (hB.1 hd)
              replace j4 := Lib.hid (And.intro ja j4)
              replace hB := Lib.hid hB
              clear ja haf
              rw [HLIT.out]
              go_simp
              go_at_call 13
              refine (confirmed_g qa HE2.out HV2.out HM2.out ua uc fa fc _ (H305.out.step hM.out) HIZ.out.lens.1 HIZ.out.lens.2).mono ?_
              rintro e w4 ⟨uar, ucr, far, fcr, rfl, b4, hr⟩
              exact hK.out _ _ (NS.next (wv := wv) (vs := vs) 6 (by omega) (fun q h => absurd h (by simp)) (x := (.tuple #[.agg #[.slice uar V2.length ucr, .slice far M2.length fcr], .int .i64 EE])) (by rw [HLIT.out]; simp only [upv, e0, e5, Nat.reduceBEq, cond_true, cond_false]) (by rw [HG.out]; exact j4.out) ⟨fun _ => keep2 b4 hM.out, fun e => absurd (e.symm.trans hd) (by simp)⟩ (by rw [HG.out]; exact fun k hbk h => ⟨fun q => (h.1 q).step b4, fun q => (h.2.1 q).step b4, fun q => (h.2.2.1 q).step b4, fun q => (h.2.2.2.1 q).step b4, h.2.2.2.2⟩) (by rw [HG.out]; exact ⟨fun _ => ⟨uar, ucr, far, fcr, rfl, fun _ => hr.le hM.out.size⟩, fun h => absurd h (by decide), fun h => absurd h (by decide), fun h => absurd h (by decide), fun h6 => absurd rfl h6⟩))
            · intro bf ac wv hfb haf hJ K' hK
              obtain ⟨vs, rfl, ja, hB, j4⟩ := hJ
              replace hK := Lib.hid hK
              simp [Region.binds] at haf
              rw [HG.out] at j4
              have e6 := (j4 6 (by simp [haf])).1 rfl
              replace j4 := Lib.hid (And.intro ja j4)
              replace hB := Lib.hid hB
              clear ja haf
              obtain ⟨uar, ucr, far, fcr, e6, hr⟩ := e6
              rw [HLIT.out]
              go_simp
              exact hK.out _ _ (NS.next (wv := wv) (vs := vs) 7 (by omega) (fun q h => absurd h (by simp)) (x := (.tuple #[.agg #[.slice uar V2.length ucr, .slice far M2.length fcr], .int .i64 EE])) (by rw [HLIT.out]; simp only [upv, e6, Nat.reduceBEq, cond_true, cond_false]) (by rw [HG.out]; exact j4.out) hB.out (by rw [HG.out]; exact fun _ _ h => h) (by rw [HG.out]; exact ⟨fun h => absurd h (by decide), fun _ => ⟨uar, ucr, far, fcr, rfl, hr⟩, fun h => absurd h (by decide), fun h => absurd h (by decide), fun h6 h7 => absurd rfl h7⟩))
            · intro bf ac wv hfb haf hJ K' hK
              obtain ⟨vs, rfl, ja, hB, j4⟩ := hJ
              replace hK := Lib.hid hK
              simp [Region.binds] at haf
              rw [HG.out] at j4
              have e7 := (j4 7 (by simp [haf])).2.1 rfl
              replace j4 := Lib.hid (And.intro ja j4)
              replace hB := Lib.hid hB
              clear ja haf
              obtain ⟨uar, ucr, far, fcr, e7, hr⟩ := e7
              rw [HLIT.out]
              go_simp
              exact hK.out _ _ (NS.next (wv := wv) (vs := vs) 8 (by omega) (fun q h => absurd h (by simp)) (x := (.agg #[.slice uar V2.length ucr, .slice far M2.length fcr])) (by rw [HLIT.out]; simp only [upv, e7, Nat.reduceBEq, cond_true, cond_false]) (by rw [HG.out]; exact j4.out) hB.out (by rw [HG.out]; exact fun _ _ h => h) (by rw [HG.out]; exact ⟨fun h => absurd h (by decide), fun h => absurd h (by decide), fun _ => ⟨uar, ucr, far, fcr, rfl, hr⟩, fun h => absurd h (by decide), fun h6 h7 h8 => absurd rfl h8⟩))
            · intro bf ac wv hfb haf hJ K' hK
              obtain ⟨vs, rfl, ja, hB, j4⟩ := hJ
              replace hK := Lib.hid hK
              simp [Region.binds] at haf
              rw [HG.out] at j4
              have e7 := (j4 7 (by simp [haf])).2.1 rfl
              replace j4 := Lib.hid (And.intro ja j4)
              replace hB := Lib.hid hB
              clear ja haf
              obtain ⟨uar, ucr, far, fcr, e7, hr⟩ := e7
              rw [HLIT.out]
              go_simp
              exact hK.out _ _ (NS.next (wv := wv) (vs := vs) 9 (by omega) (fun q h => absurd h (by simp)) (x := .int .i64 EE) (by rw [HLIT.out]; simp only [upv, e7, Nat.reduceBEq, cond_true, cond_false]) (by rw [HG.out]; exact j4.out) hB.out (by rw [HG.out]; exact fun _ _ h => h) (by rw [HG.out]; exact ⟨fun h => absurd h (by decide), fun h => absurd h (by decide), fun h => absurd h (by decide), fun h => absurd h (by decide), fun _ _ _ _ _ => E9.out.symm⟩))
            · intro bf ac wv hfb haf hJ K' hK
              obtain ⟨vs, rfl, ja, hB, j4⟩ := hJ
              replace hK := Lib.hid hK
              rw [HG.out] at j4
              have hd : bf 11 = false := by
                cases h : bf 11
                · rfl
                · exact absurd ((ja 11 10 rfl h).symm.trans hfb) (by simp)
              have hM := Lib.hid (hB.1 hd)
              replace j4 := Lib.hid (And.intro ja j4)
              replace hB := Lib.hid hB
              clear ja haf
              rw [HLIT.out]
              go_simp
              have b4 := al wv (.cells ZB 25)
              exact hK.out _ _ (NS.next (wv := wv) (vs := vs) 10 (by omega) (fun q h => absurd h (by simp)) (x := (.pointer (some ⟨wv.heap.size, 0, none⟩))) (by rw [HLIT.out]; rfl) (by rw [HG.out]; exact j4.out) ⟨fun _ => keep2 b4 hM.out, fun e => absurd (e.symm.trans hd) (by simp)⟩ (by rw [HG.out]; exact fun k hbk h => ⟨fun q => (h.1 q).step b4, fun q => (h.2.1 q).step b4, fun q => (h.2.2.1 q).step b4, fun q => (h.2.2.2.1 q).step b4, h.2.2.2.2⟩) (by rw [HG.out]; exact ⟨fun h => absurd h (by decide), fun h => absurd h (by decide), fun h => absurd h (by decide), fun _ => ⟨wv.heap.size, rfl, hM.out.size, fun _ => BoxN.new wv ZB 25, fun e => absurd (e.symm.trans hd) (by simp)⟩, fun h6 h7 h8 h10 => absurd rfl h10⟩))
            · intro bf ac wv hfb haf hJ K' hK
              obtain ⟨vs, rfl, ja, hB, j4⟩ := hJ
              replace hK := Lib.hid hK
              simp [Region.binds] at haf
              rw [HG.out] at j4
              have e8 := (j4 8 (by simp [haf])).2.2.1 rfl
              have e10 := (j4 10 (by simp [haf])).2.2.2.1 rfl
              rw [hfb] at j4 hB
              try rw [hfb] at e8
              try rw [hfb] at e10
              have HA := Lib.hid (show ∀ q, (fun p q => (p == 11 && q == 0) || (p == 11 && q == 1) || (p == 11 && q == 2) || (p == 11 && q == 3) || (p == 11 && q == 4) || (p == 11 && q == 5) || (p == 11 && q == 6) || (p == 11 && q == 7) || (p == 11 && q == 8) || (p == 11 && q == 10)) 11 q = true → bf q = true from fun q hi => by
                obtain rfl | rfl | rfl | rfl | rfl | rfl | rfl | rfl | rfl | rfl : q = 0 ∨ q = 1 ∨ q = 2 ∨ q = 3 ∨ q = 4 ∨ q = 5 ∨ q = 6 ∨ q = 7 ∨ q = 8 ∨ q = 10 := by simpa [or_assoc] using hi
                all_goals simp [haf])
              have hM := Lib.hid (hB.1 rfl)
              replace j4 := Lib.hid j4
              have HE := Lib.hid (And.intro ja HA.out)
              clear ja haf hB HA
              obtain ⟨k, e10, hk, hz, -⟩ := e10
              replace hz := hz rfl
              obtain ⟨uar, ucr, far, fcr, e8, hr⟩ := e8
              replace hr := Lib.hid (hr rfl)
              replace hk := Lib.hid hk
              have HZ := Lib.hid hz
              have HZC := Lib.hid (cs_of_box hz)
              have x0 := HZC.out.c 0 rfl
              have y0 := HZC.out.f 0 (by simp [ZB])
              have x1 := HZC.out.c 1 rfl
              have y1 := HZC.out.f 1 (by simp [ZB])
              have xz := HZC.out.2.2
              clear hz
              rw [HLIT.out]
              go_simp
              have p1 := BF.of_put HZ.out hr.out
              have p3 : Below W6.heap.size wv (putB wv k (.slice uar V2.length ucr) (.slice far M2.length fcr)) := putB_below _ _ hk.out
              exact hK.out _ _ (NS.put (vs := vs) (w' := putB wv k (.slice uar V2.length ucr) (.slice far M2.length fcr)) (by rw [HLIT.out]; simp only [e10, e8]) HE.out ⟨fun e => (by cases e), fun _ => hM.out.trans p3⟩ (fun j hj hb => by
                rw [HG.out]
                have q := j4.out j hb
                exact ⟨fun h => (q.1 h).put _, fun h => (q.2.1 h).put _, fun h => (q.2.2.1 h).put _, fun h => by
                  subst h
                  exact ⟨k, e10, hk.out, fun e => (by cases e), fun _ => p1⟩, q.2.2.2.2⟩) (fun v => by rw [HG.out]; exact ⟨fun h => absurd h (by decide), fun h => absurd h (by decide), fun h => absurd h (by decide), fun h => absurd h (by decide), fun h6 h7 h8 h10 h11 => absurd rfl h11⟩))
            · intro bf ac wv hfb haf hJ K' hK
              obtain ⟨vs, rfl, ja, hB, j4⟩ := hJ
              replace hK := Lib.hid hK
              simp [Region.binds] at haf
              rw [HG.out] at j4
              have e9 := ((j4 9 (by simp [haf])).2.2.2.2 (by decide) (by decide) (by decide) (by decide) (by decide)).trans E9.out
              replace j4 := Lib.hid (And.intro ja j4)
              replace hB := Lib.hid hB
              clear ja haf
              rw [HLIT.out]
              go_simp
              exact hK.out _ _ (NS.next (wv := wv) (vs := vs) 12 (by omega) (fun q h => absurd h (by simp)) (x := .int .i64 EE) (by rw [HLIT.out]; simp only [upv, e9, Nat.reduceBEq, cond_true, cond_false]) (by rw [HG.out]; exact j4.out) hB.out (by rw [HG.out]; exact fun _ _ h => h) (by rw [HG.out]; exact ⟨fun h => absurd h (by decide), fun h => absurd h (by decide), fun h => absurd h (by decide), fun h => absurd h (by decide), fun _ _ _ _ _ => E12.out.symm⟩))
          · intro bf ac wv hall hJ
            obtain ⟨vs, rfl, -, hB, j4⟩ := hJ
            rw [HG.out] at j4
            rw [hall 11 (by decide)] at hB j4
            have hM := Lib.hid (hB.2 rfl)
            clear hB
            obtain ⟨k, e10, hk, -, hp⟩ := (j4 10 (hall 10 (by decide))).2.2.2.1 rfl
            have hbb := hp rfl
            have eer := ((j4 12 (hall 12 (by decide))).2.2.2.2 (by decide) (by decide) (by decide) (by decide) (by decide)).trans E12.out
            clear j4 hall
            rw [HLIT.out]
            dsimp only
            rw [e10, eer]
            clear e10 eer hp
            go_wp2
            go_meet
            exact ⟨k, rfl, rfl, hk, hbb, hM.out⟩
        case rest =>
          obtain ⟨kx, rfl, rfl, hkx, hbf, b9⟩ := hcut
          obtain ⟨ua2, uc2, fa2, fc2, hbx, hrf⟩ := hbf
          have HQ1 := Lib.hid (hrf.2.1)
          have HQ2 := Lib.hid (hrf.2.2)
          have H307 := Lib.hid (H303.out.step b9)
          clear H303
          have H308 := Lib.hid (H304.out.step b9)
          clear H304
          have H309 := Lib.hid (H305.out.step b9)
          clear H305
          have H310 := Lib.hid (HRW.out.step b9)
          clear HRW
          have H311 := Lib.hid (keep2 b9 H306.out)
          clear H306
          clear b9 hkx
          have H312 := Lib.hid (hbx)
          have H313 := Lib.hid (hrf.1)
          clear hbx hrf
          have HFA := Lib.hid (far_fresh (la := some ⟨b2, o2, none⟩) HQ1.out HP.out.1 HP.out.2 HP.out.2)
          have HFB := Lib.hid (far_fresh (la := some ⟨b2, o2, none⟩) HQ2.out HP.out.1 HP.out.2 HP.out.2)
          clear HQ1 HQ2
          obtain ⟨W7, hW7⟩ : ∃ z9, wc = z9 := ⟨_, rfl⟩
          rw [hW7] at H307 H308 H309 H310 H312 H313 H311 ⊢
          clear hW7
          by_cases hfl : FL = []
          · skip
            subst hfl
            go_wp2
            go_meet
            exact ⟨(some ⟨b2, o2, none⟩), lc, L, c, z, V, M, aa, ac, all, rfl, (by first | rfl | simp), Lib.hid HIZ.out.same, H307, H311⟩
          have f1 : (0 : Int) < (FL.length : Int) := by have := List.length_pos_iff.2 hfl; omega
          have f2 : decide ((0 : Int) < (FL.length : Int)) = true := decide_eq_true f1
          have HNE := Lib.hid hfl
          clear hfl
          by_cases hz : EE = 0
          rotate_left
          · skip
            have g3 : (EE == 0) = false := by simpa using hz
            have HCC := Lib.hid (HCL.out hz HNE.out)
            clear hz
            have HTA := Lib.hid (H307.out.putA H310.out (fun _ => HRF.out))
            go_wp2
            go_meet
            exact ⟨(some ⟨b2, o2, none⟩), lc, L, c, z, V, M, ra, rc, FL, rfl, (by first | rfl | simp), HCC, HTA, H311⟩
          have HTR2 := Lib.hid (HCF.out hz HNE.out)
          subst hz
          rw [HV2.out, HM2.out] at HTR2
          have z20 := (cs_of_box H312.out).c 0 rfl
          have z21 := (cs_of_box H312.out).c 1 rfl
          have z2z := (cs_of_box H312.out).2.2
          have xX0 := (cs_of_box H308.out).c 0 rfl
          have xX1 := (cs_of_box H308.out).c 1 rfl
          have xXz := (cs_of_box H308.out).2.2
          have yX0 := (cs_of_box H308.out).f 0 (by simp)
          have yX1 := (cs_of_box H308.out).f 1 (by simp)
          have ht := (H307.out.putA H310.out (fun _ => HRF.out)).putB H313.out (fun _ => HFA.out) (fun _ => HFB.out)
          have hb := H311.out.trans (putB_below (w := W7) (.slice ua2 V2.length uc2) (.slice fa2 M2.length fc2) HLO.out.1)
          replace ht := Lib.hid ht
          replace hb := Lib.hid hb
          go_wp2
          go_meet
          exact ⟨(some ⟨b2, o2, none⟩), lc, L, c, z, V2, M2, ra, rc, FL, rfl, (by first | rfl | simp), HTR2, ht, hb⟩
      · skip
        obtain ⟨ua, uc, fa, fc, hx9, hr9, hf8, hf9⟩ := HT.out.bb
        have H301 := Lib.hid (hx9)
        have H302 := Lib.hid (hr9)
        clear hx9 hr9 hf8 hf9
        have hal : 0 < all.length := List.length_pos_iff.2 HIZ.out.ne
        obtain ⟨k, hk, hkl⟩ := mod_nat HN4.out.1 hal
        have HKL := Lib.hid hkl
        have hkt : (yv / 4).tmod (all.length : Int) = k := by rw [Int.tmod_eq_emod_of_nonneg HN4.out.1]; exact hk
        obtain ⟨b2, o2, rfl, a0, a1, a2⟩ := wos_at HT.out.al hkl
        have az := World.block_lt_of_cell? _ _ a0
        have HWM := Lib.hid (wo_mem hkl)
        obtain ⟨x, hx⟩ : ∃ z9, all.getD k zW = z9 := ⟨_, rfl⟩
        rw [hx] at a0 a1 a2 HWM
        clear hx
        have g1 : (0 : Int) < (all.length : Int) := by omega
        have g3 : ¬ (all.length : Int) = 0 := by omega
        have g4 : ¬ all = [] := HIZ.out.ne
        have g5 : ((all.length : Int) == 0) = false := by simp; exact g4
        have g6 : (k : Int) < (all.length : Int) := by omega
        have hn1 := HN4.out.1
        have HXD := Lib.hid (HIZ.out.bit x HWM.out)
        clear hk hal hkl
        have HWNB := Lib.hid (show wr.heap.size ≠ kb by have := (cs_of_box H301.out).2.2; omega)
        have H303 := Lib.hid (HT.out.step (al wr (.cells #[.int .i64 x.v, .int .i64 (x.D : Int), .int .i64 x.c] 44)))
        clear HT
        have H304 := Lib.hid (H301.out.step (al wr (.cells #[.int .i64 x.v, .int .i64 (x.D : Int), .int .i64 x.c] 44)))
        clear H301
        have H305 := Lib.hid (H302.out.step (al wr (.cells #[.int .i64 x.v, .int .i64 (x.D : Int), .int .i64 x.c] 44)))
        clear H302
        have H306 := Lib.hid (keep2 (al wr (.cells #[.int .i64 x.v, .int .i64 (x.D : Int), .int .i64 x.c] 44)) HW.out)
        clear HW
        have H307 := Lib.hid (Cs.new wr (wr.heap.size) #[.int .i64 x.v, .int .i64 (x.D : Int), .int .i64 x.c] 44 (by simp))
        have xw0 : (wr.alloc (.cells #[.int .i64 x.v, .int .i64 (x.D : Int), .int .i64 x.c] 44)).cell? ⟨(wr.heap.size), 0, none⟩ = some (.int .i64 x.v) := H307.out.c 0 rfl
        have xw1 : (wr.alloc (.cells #[.int .i64 x.v, .int .i64 (x.D : Int), .int .i64 x.c] 44)).cell? ⟨(wr.heap.size), 1, none⟩ = some (.int .i64 (x.D : Int)) := H307.out.c 1 rfl
        have xw2 : (wr.alloc (.cells #[.int .i64 x.v, .int .i64 (x.D : Int), .int .i64 x.c] 44)).cell? ⟨(wr.heap.size), 2, none⟩ = some (.int .i64 x.c) := H307.out.c 2 rfl
        have zw : (wr.heap.size) < (wr.alloc (.cells #[.int .i64 x.v, .int .i64 (x.D : Int), .int .i64 x.c] 44)).heap.size := H307.out.2.2
        go_wp2_with fail
        clear a0 a1 a2 az
        refine (top_any (.slice la L.length lc) _ L x.D x.c HXD.out (by have := HIZ.out.len; omega) _ (ods_of_row rfl H303.out.row)).mono ?_
        rintro e u31 ⟨rfl, b31⟩
        clear xw0 xw1 xw2 zw
        have H308 := Lib.hid (H303.out.step b31)
        clear H303
        have H309 := Lib.hid (H304.out.step b31)
        clear H304
        have H310 := Lib.hid (H305.out.step b31)
        clear H305
        have H311 := Lib.hid (H307.out.step b31)
        clear H307
        have H312 := Lib.hid (keep2 b31 H306.out)
        clear H306
        clear b31
        obtain ⟨T, hT⟩ : ∃ z9, tpf x.D L x.c L.length = z9 := ⟨_, rfl⟩
        obtain ⟨hre, hrt⟩ := HIZ.out.rep HWM.out hT
        rw [hT]
        obtain ⟨xv, hxv⟩ : ∃ z9, x.v = z9 := ⟨_, rfl⟩
        rw [hxv] at hre hrt H311 ⊢
        obtain ⟨V2, hV2⟩ : ∃ z9, rV 0 (rpM M xv T) = z9 := ⟨_, rfl⟩
        obtain ⟨M2, hM2⟩ : ∃ z9, rM 0 (rpM M xv T) = z9 := ⟨_, rfl⟩
        rw [hV2, hM2] at hrt
        have HRE := Lib.hid hre
        have HTR2 := Lib.hid hrt
        have HV2 := Lib.hid hV2
        have HM2 := Lib.hid hM2
        clear hre hrt hV2 hM2 hT hxv
        have HP := Lib.hid (And.intro (row_lt H308.out.row) H308.out.zb.2.2)
        have xX0 := (cs_of_box H309.out).c 0 rfl
        have xX1 := (cs_of_box H309.out).c 1 rfl
        have xXz := (cs_of_box H309.out).2.2
        have xw0 : u31.cell? ⟨(wr.heap.size), 0, none⟩ = some (.int .i64 xv) := H311.out.c 0 rfl
        have xw1 : u31.cell? ⟨(wr.heap.size), 1, none⟩ = some (.int .i64 (x.D : Int)) := H311.out.c 1 rfl
        have xw2 : u31.cell? ⟨(wr.heap.size), 2, none⟩ = some (.int .i64 x.c) := H311.out.c 2 rfl
        have zw : (wr.heap.size) < u31.heap.size := H311.out.2.2
        go_wp2_with fail
        refine (reported_f xv T HRE.out HV2.out HM2.out ua uc fa fc _ H310.out HIZ.out.lens.1 HIZ.out.lens.2).mono ?_
        rintro e u32 ⟨ua2, uc2, fa2, fc2, rfl, b32, hr2, hf2, hf3⟩
        clear xX0 xX1 xXz xw0 xw1 xw2 zw
        have H313 := Lib.hid (H308.out.step b32)
        clear H308
        have H314 := Lib.hid (H309.out.step b32)
        clear H309
        have H315 := Lib.hid (H310.out.step b32)
        clear H310
        have H316 := Lib.hid (H311.out.step b32)
        clear H311
        have H317 := Lib.hid (keep2 b32 H312.out)
        clear H312
        clear b32
        have HFA := Lib.hid (far_fresh hf2 HP.out.1 HP.out.2 HP.out.2)
        have HFB := Lib.hid (far_fresh hf3 HP.out.1 HP.out.2 HP.out.2)
        clear hf2 hf3
        have H318 := Lib.hid (hr2)
        clear hr2
        have H319 := Lib.hid (H313.out.step (al u32 (.cells #[.slice ua2 V2.length uc2, .slice fa2 M2.length fc2] 25)))
        clear H313
        have H320 := Lib.hid (H314.out.step (al u32 (.cells #[.slice ua2 V2.length uc2, .slice fa2 M2.length fc2] 25)))
        clear H314
        have H321 := Lib.hid (H315.out.step (al u32 (.cells #[.slice ua2 V2.length uc2, .slice fa2 M2.length fc2] 25)))
        clear H315
        have H322 := Lib.hid (H316.out.step (al u32 (.cells #[.slice ua2 V2.length uc2, .slice fa2 M2.length fc2] 25)))
        clear H316
        have H323 := Lib.hid (H318.out.step (al u32 (.cells #[.slice ua2 V2.length uc2, .slice fa2 M2.length fc2] 25)))
        clear H318
        have H324 := Lib.hid (keep2 (al u32 (.cells #[.slice ua2 V2.length uc2, .slice fa2 M2.length fc2] 25)) H317.out)
        clear H317
        have H325 := Lib.hid (Cs.new u32 (u32.heap.size) #[.slice ua2 V2.length uc2, .slice fa2 M2.length fc2] 25 (by simp))
        obtain ⟨W5, hW5⟩ : ∃ z9, (u32.alloc (.cells #[.slice ua2 V2.length uc2, .slice fa2 M2.length fc2] 25)) = z9 := ⟨_, rfl⟩
        have HW5 := Lib.hid hW5
        rw [hW5] at H319 H320 H321 H322 H323 H325 H324
        clear hW5
        go_upto_region 36 with fail
        rw [HW5.out]
        have x20 : W5.cell? ⟨(u32.heap.size), 0, none⟩ = some (.slice ua2 V2.length uc2) := H325.out.c 0 rfl
        have x21 : W5.cell? ⟨(u32.heap.size), 1, none⟩ = some (.slice fa2 M2.length fc2) := H325.out.c 1 rfl
        have z2 : (u32.heap.size) < W5.heap.size := H325.out.2.2
        have xX0 := (cs_of_box H320.out).c 0 rfl
        have xX1 := (cs_of_box H320.out).c 1 rfl
        have xXz := (cs_of_box H320.out).2.2
        have yX0 := (cs_of_box H320.out).f 0 (by simp)
        have yX1 := (cs_of_box H320.out).f 1 (by simp)
        go_upto_region 37 with fail
        have ht := H319.out.putB H323.out (fun _ => HFA.out) (fun _ => HFB.out)
        have hw := (putB_chg W5 kb (.slice ua2 V2.length uc2) (.slice fa2 M2.length fc2)).cs (show (wr.heap.size) ≠ kb from HWNB.out) H322.out
        have hb := H324.out.trans (putB_below (w := W5) (.slice ua2 V2.length uc2) (.slice fa2 M2.length fc2) HLO.out.1)
        change Code.wp _ _ _ _ (putB W5 kb (.slice ua2 V2.length uc2) (.slice fa2 M2.length fc2))
        obtain ⟨W6, hW6⟩ : ∃ z9, (putB W5 kb (.slice ua2 V2.length uc2) (.slice fa2 M2.length fc2)) = z9 := ⟨_, rfl⟩
        rw [hW6] at ht hw hb ⊢
        have HT6 := Lib.hid ht
        have HW6 := Lib.hid hw
        have HB6 := Lib.hid hb
        clear ht hw hb hW6
        clear x20 x21 z2 xX0 xX1 xXz yX0 yX1
        have xw0 : W6.cell? ⟨(wr.heap.size), 0, none⟩ = some (.int .i64 xv) := HW6.out.c 0 rfl
        have xw1 : W6.cell? ⟨(wr.heap.size), 1, none⟩ = some (.int .i64 (x.D : Int)) := HW6.out.c 1 rfl
        have xw2 : W6.cell? ⟨(wr.heap.size), 2, none⟩ = some (.int .i64 x.c) := HW6.out.c 2 rfl
        have zw : (wr.heap.size) < W6.heap.size := HW6.out.2.2
        go_wp2_with fail
        have HT66 := HT6
        refine (reported_w (.slice la L.length lc) (.slice (some ⟨b2, o2, none⟩) all.length ac) L all xv T _ (ods_of_row rfl HT6.out.row) HT6.out.al (by have := HIZ.out.len; omega) (by have := HIZ.out.lenA; omega) HIZ.out.bit).mono ?_
        rintro e u33 ⟨ru, rfl, hru, b33⟩
        clear xw0 xw1 xw2 zw
        have H326 := Lib.hid (HT6.out.step b33)
        clear HT6
        have H327 := Lib.hid (HW6.out.step b33)
        clear HW6
        have H328 := Lib.hid (keep2 b33 HB6.out)
        clear HB6
        clear b33
        obtain ⟨FL, hFL⟩ : ∃ z9, rpw L xv T all = z9 := ⟨_, rfl⟩
        rw [hFL] at hru HTR2
        obtain ⟨ra, rc, rfl⟩ := row_slice hru
        have HRF := Lib.hid (row_far HT66.out hru)
        have HRW := Lib.hid (wos_of_row rfl hru)
        clear hru hFL HT66
        have HTA := Lib.hid (H326.out.putA HRW.out (fun _ => HRF.out))
        go_wp2
        go_meet
        exact ⟨la, lc, L, T, z, V2, M2, ra, rc, FL, rfl, (by first | rfl | simp), HTR2, HTA, H328⟩
    case rest =>
      clear HIZ HT HW
      obtain ⟨la, lc, L, c, z, V, M, aa, ac, all, rfl, rfl, HPR, HT, HW⟩ := hcut
      go_wp2_with fail
      have HT00 := HT
      refine (worlds_any (.slice la L.length lc) (.slice aa all.length ac) L all c _ (ods_of_row rfl HT.out.row) HT.out.al (by have := HPR.out.len; omega) HPR.out.ne HPR.out.nd HPR.out.gd HPR.out.num).mono ?_
      rintro e u861 ⟨ru, R, rfl, hru, hq1, hq2, hq3, hq4, b861⟩
      have H501 := Lib.hid (HT.out.step b861)
      clear HT
      have H502 := Lib.hid (keep2 b861 HW.out)
      clear HW
      clear b861
      have HIZ := Lib.hid (HPR.out.nxt R hq1 hq2 hq3 hq4)
      clear hq1 hq2 hq3 hq4 HPR
      obtain ⟨ra, rc, rfl⟩ := row_slice hru
      have HRF := Lib.hid (row_far HT00.out hru)
      have HRW := Lib.hid (wos_of_row rfl hru)
      clear hru HT00
      have HTA := Lib.hid (H501.out.putA HRW.out (fun _ => HRF.out))
      clear HRW HRF H501
      obtain ⟨ua, uc, fa, fc, hx9, hr9, hf8, hf9⟩ := HTA.out.bb
      have H503 := Lib.hid (hx9)
      have H504 := Lib.hid (hr9)
      clear hx9 hr9 hf8 hf9
      have HVV := Lib.hid (HIZ.out.inv.values)
      have HVL := Lib.hid HIZ.out.lens.2
      have HRL := Lib.hid HIZ.out.lenA
      go_upto_region 39 with fail
      obtain ⟨W6, hW6⟩ : ∃ z9, u861 = z9 := ⟨_, rfl⟩
      rw [hW6] at HTA H503 H504 H502 ⊢
      clear hW6
      obtain ⟨lit, hlit⟩ : ∃ lit : (Nat → Value) → Act, lit = fun vs => { tmps := List.toArray (Value.int IntKind.u8 st :: Value.slice (some { block := bk, off := ok }) l.length sc :: undef :: undef :: u4 :: Value.bool true :: Value.pointer (some { block := kb, off := 0 }) :: Value.slice ra R.length rc :: Value.slice la L.length lc :: Value.pointer (some { block := kl, off := 0 }) :: Value.int IntKind.i64 (i : Int) :: Value.int IntKind.i64 (yv / 4) :: u12 :: u13 :: u14 :: u15 :: u16 :: u17 :: u18 :: u19 :: u20 :: u21 :: u22 :: Value.bool true :: Value.slice (some { block := bk, off := ok }) l.length sc :: Value.int IntKind.i64 (l.length : Int) :: Value.bool (decide ((12 : Int) < (l.length : Int))) :: undef :: Value.int IntKind.u8 st :: Value.int IntKind.i64 st :: Value.int IntKind.i64 (st % 4) :: Value.agg #[Value.slice ua0 V0.length uc0, Value.slice fa0 M0.length fc0] :: Value.int IntKind.u8 st :: Value.int IntKind.i64 st :: Value.int IntKind.i64 (st % 4) :: Value.agg #[Value.int IntKind.i64 (st % 4), Value.int IntKind.i64 0, Value.int IntKind.i64 (-1)] :: Value.slice (some { block := kw, off := 0 }) 1 1 :: Value.agg #[Value.int IntKind.i64 (-1), Value.int IntKind.i64 0, Value.int IntKind.i64 0, Value.int IntKind.i64 0] :: Value.int IntKind.i64 (i : Int) :: Value.slice (some { block := bk, off := ok }) l.length sc :: Value.int IntKind.i64 (l.length : Int) :: Value.bool true :: u42 :: u43 :: Value.slice (some { block := bk, off := ok }) l.length sc :: Value.int IntKind.i64 (i : Int) :: Value.pointer (some { block := bk, off := ok + i }) :: Value.int IntKind.u16 yv :: Value.int IntKind.i64 yv :: Value.int IntKind.i64 (yv / 4) :: Value.slice (some { block := bk, off := ok }) l.length sc :: Value.int IntKind.i64 (i : Int) :: Value.pointer (some { block := bk, off := ok + i }) :: Value.int IntKind.u16 yv :: u54 :: u55 :: u56 :: u57 :: u58 :: u59 :: u60 :: u61 :: u62 :: u63 :: u64 :: u65 :: u66 :: u67 :: u68 :: u69 :: u70 :: u71 :: u72 :: u73 :: u74 :: u75 :: u76 :: u77 :: u78 :: u79 :: u80 :: u81 :: u82 :: u83 :: u84 :: u85 :: u86 :: u87 :: u88 :: u89 :: u90 :: u91 :: u92 :: u93 :: u94 :: u95 :: u96 :: u97 :: u98 :: u99 :: u100 :: u101 :: u102 :: u103 :: u104 :: u105 :: u106 :: u107 :: u108 :: u109 :: u110 :: u111 :: u112 :: u113 :: u114 :: u115 :: u116 :: u117 :: u118 :: u119 :: u120 :: u121 :: u122 :: u123 :: u124 :: u125 :: u126 :: u127 :: u128 :: u129 :: u130 :: u131 :: u132 :: u133 :: u134 :: u135 :: u136 :: u137 :: u138 :: u139 :: u140 :: u141 :: u142 :: Value.slice la L.length lc :: Value.slice aa all.length ac :: Value.slice ra R.length rc :: vs 0 :: vs 1 :: vs 2 :: vs 3 :: vs 4 :: vs 5 :: undef :: []), defers := [] } := ⟨_, rfl⟩
      have HLIT := Lib.hid hlit
      clear hlit
      obtain ⟨val, hval⟩ : ∃ val : List Value, val = [.pointer (some ⟨kb, 0, none⟩), .slice ua V.length uc, .slice ra R.length rc, undef, .bool true, .bool false] := ⟨_, rfl⟩
      have E0 := Lib.hid (show val.getD 0 undef = .pointer (some ⟨kb, 0, none⟩) by rw [hval]; rfl)
      have E1 := Lib.hid (show val.getD 1 undef = .slice ua V.length uc by rw [hval]; rfl)
      have E2 := Lib.hid (show val.getD 2 undef = .slice ra R.length rc by rw [hval]; rfl)
      have E4 := Lib.hid (show val.getD 4 undef = .bool true by rw [hval]; rfl)
      have E5 := Lib.hid (show val.getD 5 undef = .bool false by rw [hval]; rfl)
      clear hval
      obtain ⟨G, hG0⟩ : ∃ G : Nat → Value → World → Prop, G = (fun i v w => (i = 3 → IntsAt w v (wvl R)) ∧ (i ≠ 3 → v = val.getD i undef)) := ⟨_, rfl⟩
      have HG := Lib.hid hG0
      clear hG0
      refine region_inv (RS lit W6 G) (by kernel_rfl) (by decide +kernel) ?_ ?_ ?_
      · exact ⟨fun i => ([u146, u147, u148, u149, u150, u151] : List Value).getD i undef, (by rw [HLIT.out]; rfl), below_drew _ _, fun i h => by cases h⟩
      · refine ⟨?_, ?_, ?_, ?_, ?_, ?_, trivial⟩
        · intro bf ac wv hfb haf hJ K' hK
          obtain ⟨vs, rfl, hM, j4⟩ := hJ
          replace hK := Lib.hid hK
          replace hM := Lib.hid hM
          rw [HG.out] at j4
          replace j4 := Lib.hid j4
          clear haf hfb
          rw [HLIT.out]
          go_simp
          exact hK.out _ _ (RS.next (wv := wv) (vs := vs) 0 (x := .pointer (some ⟨kb, 0, none⟩)) (by rw [HLIT.out]; rfl) (by rw [HG.out]; exact j4.out) hM.out (by rw [HG.out]; exact fun _ _ h => h) (by rw [HG.out]; exact ⟨fun h => absurd h (by decide), fun _ => E0.out.symm⟩))
        · intro bf ac wv hfb haf hJ K' hK
          obtain ⟨vs, rfl, hM, j4⟩ := hJ
          replace hK := Lib.hid hK
          replace hM := Lib.hid hM
          rw [HG.out] at j4
          simp [Region.binds] at haf
          have e0 := ((j4 0 (by simp [haf])).2 (by decide)).trans E0.out
          replace j4 := Lib.hid j4
          clear haf hfb
          have xx := (cs_of_box H503.out).step hM.out
          have xx0 := xx.c 0 rfl
          have xxz := xx.2.2
          clear xx
          rw [HLIT.out]
          go_simp
          exact hK.out _ _ (RS.next (wv := wv) (vs := vs) 1 (x := .slice ua V.length uc) (by rw [HLIT.out]; simp only [upv, e0, Nat.reduceBEq, cond_true, cond_false]) (by rw [HG.out]; exact j4.out) hM.out (by rw [HG.out]; exact fun _ _ h => h) (by rw [HG.out]; exact ⟨fun h => absurd h (by decide), fun _ => E1.out.symm⟩))
        · intro bf ac wv hfb haf hJ K' hK
          obtain ⟨vs, rfl, hM, j4⟩ := hJ
          replace hK := Lib.hid hK
          replace hM := Lib.hid hM
          rw [HG.out] at j4
          replace j4 := Lib.hid j4
          clear haf hfb
          rw [HLIT.out]
          go_simp
          exact hK.out _ _ (RS.next (wv := wv) (vs := vs) 2 (x := .slice ra R.length rc) (by rw [HLIT.out]; rfl) (by rw [HG.out]; exact j4.out) hM.out (by rw [HG.out]; exact fun _ _ h => h) (by rw [HG.out]; exact ⟨fun h => absurd h (by decide), fun _ => E2.out.symm⟩))
        · intro bf ac wv hfb haf hJ K' hK
          obtain ⟨vs, rfl, hM, j4⟩ := hJ
          replace hK := Lib.hid hK
          replace hM := Lib.hid hM
          rw [HG.out] at j4
          simp [Region.binds] at haf
          have e2 := ((j4 2 (by simp [haf])).2 (by decide)).trans E2.out
          replace j4 := Lib.hid j4
          clear haf hfb
          rw [HLIT.out]
          go_simp
          go_at_call 34
          refine (valuesW_any _ R _ (HTA.out.al.step hM.out) (by unfold maxLen; have := HRL.out; omega)).mono ?_
          rintro e w4 ⟨u4, rfl, hu4, b4⟩
          exact hK.out _ _ (RS.next (wv := wv) (vs := vs) 3 (x := u4) (by rw [HLIT.out]; simp only [upv, e2, Nat.reduceBEq, cond_true, cond_false]) (by rw [HG.out]; exact j4.out) (keep2 b4 hM.out) (by rw [HG.out]; exact fun k v h => ⟨fun q => (h.1 q).step b4, h.2⟩) (by rw [HG.out]; exact ⟨fun _ => hu4, fun h3 => absurd rfl h3⟩))
        · intro bf ac wv hfb haf hJ K' hK
          obtain ⟨vs, rfl, hM, j4⟩ := hJ
          replace hK := Lib.hid hK
          replace hM := Lib.hid hM
          rw [HG.out] at j4
          simp [Region.binds] at haf
          have e1 := ((j4 1 (by simp [haf])).2 (by decide)).trans E1.out
          have e3 := (j4 3 (by simp [haf])).1 rfl
          replace j4 := Lib.hid j4
          clear haf hfb
          rw [HLIT.out]
          go_simp
          go_at_call 33
          refine (ints_t _ _ V (wvl R) HVV.out _ (H504.out.1.step hM.out) e3).mono ?_
          rintro e w4 ⟨rfl, b4⟩
          exact hK.out _ _ (RS.next (wv := wv) (vs := vs) 4 (x := .bool true) (by rw [HLIT.out]; simp only [upv, e1, Nat.reduceBEq, cond_true, cond_false]) (by rw [HG.out]; exact j4.out) (keep2 b4 hM.out) (by rw [HG.out]; exact fun k v h => ⟨fun q => (h.1 q).step b4, h.2⟩) (by rw [HG.out]; exact ⟨fun h => absurd h (by decide), fun _ => E4.out.symm⟩))
        · intro bf ac wv hfb haf hJ K' hK
          obtain ⟨vs, rfl, hM, j4⟩ := hJ
          replace hK := Lib.hid hK
          replace hM := Lib.hid hM
          rw [HG.out] at j4
          simp [Region.binds] at haf
          have e4 := ((j4 4 (by simp [haf])).2 (by decide)).trans E4.out
          replace j4 := Lib.hid j4
          clear haf hfb
          rw [HLIT.out]
          go_simp
          exact hK.out _ _ (RS.next (wv := wv) (vs := vs) 5 (x := .bool false) (by rw [HLIT.out]; simp only [upv, e4, Nat.reduceBEq, cond_true, cond_false]) (by rw [HG.out]; exact j4.out) hM.out (by rw [HG.out]; exact fun _ _ h => h) (by rw [HG.out]; exact ⟨fun h => absurd h (by decide), fun _ => E5.out.symm⟩))
      · intro bf ac wv hall hJ
        obtain ⟨vs, rfl, hM, j4⟩ := hJ
        rw [HG.out] at j4
        have hlast := ((j4 5 (hall 5 (by decide))).2 (by decide)).trans E5.out
        clear j4 hall
        rw [HLIT.out]
        dsimp only
        rw [hlast]
        clear hlast HLIT HG
        generalize vs = us8
        have H505 := Lib.hid (HTA.out.step hM)
        clear HTA
        have H506 := Lib.hid (H503.out.step hM)
        clear H503
        have H507 := Lib.hid (H504.out.step hM)
        clear H504
        have H508 := Lib.hid (keep2 hM H502.out)
        clear H502
        clear hM
        obtain ⟨W7, hW7⟩ : ∃ z9, wv = z9 := ⟨_, rfl⟩
        rw [hW7] at H505 H506 H507 H508 ⊢
        clear hW7
        have t9 : i ≤ 1000 := by have h1 := HIL.out; have h2 := H9.out; omega
        go_wp2
        go_roundw
        case rel => exact ⟨i + 1, HIL.out, (by first | rfl | go_num), la, lc, L, c, z, V, M, ra, rc, R, rfl, rfl, HIZ, H505, H508⟩
        case measure => exact meas_any HIL.out H9.out
set_option maxRecDepth 100000 in
set_option maxHeartbeats 8000000 in
theorem exact_any (st : Int) (vl : Value) (l : List Int) (w : World) (a1 : 0 ≤ st) (a2 : st ≤ 255) (h : KsAt .u16 w vl l)  :
    Calls Try.prog 6 #[.int .u8 st, vl] w fun e w' => e = .returned (.bool true) ∧ Below w.heap.size w w' := by
  by_cases hl : 12 < l.length
  · exact exact_no st vl l w a1 a2 h hl
  · exact exact_go st vl l w a1 a2 h hl
end Go.Proofs.Ytolinnmhdclgpaa
