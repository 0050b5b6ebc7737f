import Derived.Test.YteodafhgfcbdpaaRe
import Derived.Test.YteodafhgfcbdpaaWj
import Derived.Test.YteodafhgfcbdpaaUl
import Derived.Test.YteodafhgfcbdpaaVa
namespace Go.Proofs.Yteodafhgfcbdpaa
open Go.RowKit

theorem pc_get {l : List Pc} {k : Nat} (h : k < l.length) : l[k]? = some (l.getD k zPc) := by
  rw [List.getD_eq_getElem?_getD, List.getElem?_eq_getElem h]; rfl
set_option maxRecDepth 100000 in
set_option maxHeartbeats 8000000 in
theorem same_pcs (v u : Value) (l : List Pc) (w : World) (h : PciAt w v l) (h2 : PciAt w u l) (h9 : l.length ≤ 1000) : Calls Try.prog 19 #[v, u] w fun e w' => e = .returned (.bool true) ∧ Below w.heap.size w w' := by
  obtain ⟨va, vc, rfl, -, hc⟩ := h
  obtain ⟨ua, uc, rfl, -, hc2⟩ := h2
  have HC := Lib.hid hc
  have HD := Lib.hid hc2
  have H9 := Lib.hid h9
  clear hc hc2 h9
  go_enter Try.func19, Try.ntmps19
  go_wp2_with fail
  go_loopw [5] (fun iv wr => ∃ k : Nat, k ≤ l.length ∧ iv = .int .i64 (k : Int) ∧ Hid (Below w.heap.size w wr)) (fun iv _ => l.length - (intOf iv).toNat)
  case atStart => exact ⟨0, by omega, rfl, Lib.hid (Below.refl _ _)⟩
  case round =>
    obtain ⟨k, hk, rfl, HB⟩ := hrel
    have hl9 := H9.out
    by_cases hlt : k < l.length
    rotate_left
    · have t3 : ¬ (k : Int) < (l.length : Int) := by omega
      have t4 : ¬ k < l.length := hlt
      go_wp2
      go_ret
      exact ⟨rfl, HB.out⟩
    obtain ⟨b1, o1, rfl, hx⟩ := HC.out (by intro q; rw [q] at hlt; simp at hlt)
    obtain ⟨b2, o2, rfl, hy⟩ := HD.out (by intro q; rw [q] at hlt; simp at hlt)
    obtain ⟨x1, x2, p0, p1, p2, p3, p4⟩ := hx k _ (pc_get hlt)
    obtain ⟨y1, y2, q0, q1, q2, q3, q4⟩ := hy k _ (pc_get hlt)
    clear hx hy
    obtain ⟨x, hxx⟩ : ∃ z9, l.getD k zPc = z9 := ⟨_, rfl⟩
    rw [hxx] at p0 p3 p4 q0 q3 q4
    clear hxx
    have P3 := Lib.hid p3
    have P4 := Lib.hid p4
    have Q3 := Lib.hid q3
    have Q4 := Lib.hid q4
    obtain ⟨a1, c1, rfl, -, -⟩ := p3
    obtain ⟨a2, c2, rfl, -, -⟩ := p4
    obtain ⟨a3, c3, rfl, -, -⟩ := q3
    obtain ⟨a4, c4, rfl, -, -⟩ := q4
    have PX := Lib.hid (And.intro p0 (And.intro p1 p2))
    have QX := Lib.hid (And.intro q0 (And.intro q1 q2))
    clear p0 p1 p2 q0 q1 q2
    have HIL := Lib.hid hlt
    have t3 : (k : Int) < (l.length : Int) := by omega
    have t4 : decide ((k : Int) < (l.length : Int)) = true := decide_eq_true t3
    go_upto_region 6 with fail
    clear t3 t4 hlt hk hl9
    obtain ⟨lit, hlit⟩ : ∃ lit : (Nat → Value) → Act, lit = fun vs => { tmps := List.toArray (Value.slice (some { block := b1, off := o1 }) l.length vc :: Value.slice (some { block := b2, off := o2 }) l.length uc :: undef :: undef :: u4 :: Value.int IntKind.i64 (k : Int) :: Value.slice (some { block := b1, off := o1 }) l.length vc :: Value.int IntKind.i64 (l.length : Int) :: Value.slice (some { block := b2, off := o2 }) l.length uc :: Value.int IntKind.i64 (l.length : Int) :: Value.bool false :: Value.int IntKind.i64 (k : Int) :: Value.slice (some { block := b1, off := o1 }) l.length vc :: Value.int IntKind.i64 (l.length : Int) :: Value.bool true :: u15 :: u16 :: vs 0 :: vs 1 :: vs 2 :: vs 3 :: vs 4 :: vs 5 :: vs 6 :: vs 7 :: vs 8 :: vs 9 :: vs 10 :: vs 11 :: vs 12 :: vs 13 :: vs 14 :: vs 15 :: vs 16 :: vs 17 :: vs 18 :: vs 19 :: vs 20 :: vs 21 :: vs 22 :: vs 23 :: vs 24 :: vs 25 :: vs 26 :: vs 27 :: vs 28 :: vs 29 :: vs 30 :: vs 31 :: vs 32 :: vs 33 :: vs 34 :: vs 35 :: vs 36 :: vs 37 :: vs 38 :: []), defers := [] } := ⟨_, rfl⟩
    have HLIT := Lib.hid hlit
    clear hlit
    obtain ⟨val, hval⟩ : ∃ val : List Value, val = [.slice (some ⟨b1, o1, none⟩) l.length vc, .int .i64 (k : Int), .pointer (some ⟨b1, o1 + k * 3, none⟩), .pointer (some ⟨b1, o1 + k * 3, none⟩), .int .i64 x.i, .slice (some ⟨b2, o2, none⟩) l.length uc, .int .i64 (k : Int), .pointer (some ⟨b2, o2 + k * 3, none⟩), .pointer (some ⟨b2, o2 + k * 3, none⟩), .int .i64 x.i, .bool false, .bool false, .slice (some ⟨b1, o1, none⟩) l.length vc, .int .i64 (k : Int), .pointer (some ⟨b1, o1 + k * 3, none⟩), .pointer (some ⟨b1, o1 + k * 3 + 1, none⟩), .slice a1 x.d.length c1, .slice (some ⟨b2, o2, none⟩) l.length uc, .int .i64 (k : Int), .pointer (some ⟨b2, o2 + k * 3, none⟩), .pointer (some ⟨b2, o2 + k * 3 + 1, none⟩), .slice a3 x.d.length c3, .bool true, .bool false, .bool false, .bool false, .slice (some ⟨b1, o1, none⟩) l.length vc, .int .i64 (k : Int), .pointer (some ⟨b1, o1 + k * 3, none⟩), .pointer (some ⟨b1, o1 + k * 3 + 2, none⟩), .slice a2 x.p.length c2, .slice (some ⟨b2, o2, none⟩) l.length uc, .int .i64 (k : Int), .pointer (some ⟨b2, o2 + k * 3, none⟩), .pointer (some ⟨b2, o2 + k * 3 + 2, none⟩), .slice a4 x.p.length c4, .bool true, .bool false, .bool false] := ⟨_, rfl⟩
    have E0 := Lib.hid (show val.getD 0 undef = .slice (some ⟨b1, o1, none⟩) l.length vc by rw [hval]; rfl)
    have E1 := Lib.hid (show val.getD 1 undef = .int .i64 (k : Int) by rw [hval]; rfl)
    have E2 := Lib.hid (show val.getD 2 undef = .pointer (some ⟨b1, o1 + k * 3, none⟩) by rw [hval]; rfl)
    have E3 := Lib.hid (show val.getD 3 undef = .pointer (some ⟨b1, o1 + k * 3, none⟩) by rw [hval]; rfl)
    have E4 := Lib.hid (show val.getD 4 undef = .int .i64 x.i by rw [hval]; rfl)
    have E5 := Lib.hid (show val.getD 5 undef = .slice (some ⟨b2, o2, none⟩) l.length uc by rw [hval]; rfl)
    have E6 := Lib.hid (show val.getD 6 undef = .int .i64 (k : Int) by rw [hval]; rfl)
    have E7 := Lib.hid (show val.getD 7 undef = .pointer (some ⟨b2, o2 + k * 3, none⟩) by rw [hval]; rfl)
    have E8 := Lib.hid (show val.getD 8 undef = .pointer (some ⟨b2, o2 + k * 3, none⟩) by rw [hval]; rfl)
    have E9 := Lib.hid (show val.getD 9 undef = .int .i64 x.i by rw [hval]; rfl)
    have E10 := Lib.hid (show val.getD 10 undef = .bool false by rw [hval]; rfl)
    have E11 := Lib.hid (show val.getD 11 undef = .bool false by rw [hval]; rfl)
    have E12 := Lib.hid (show val.getD 12 undef = .slice (some ⟨b1, o1, none⟩) l.length vc by rw [hval]; rfl)
    have E13 := Lib.hid (show val.getD 13 undef = .int .i64 (k : Int) by rw [hval]; rfl)
    have E14 := Lib.hid (show val.getD 14 undef = .pointer (some ⟨b1, o1 + k * 3, none⟩) by rw [hval]; rfl)
    have E15 := Lib.hid (show val.getD 15 undef = .pointer (some ⟨b1, o1 + k * 3 + 1, none⟩) by rw [hval]; rfl)
    have E16 := Lib.hid (show val.getD 16 undef = .slice a1 x.d.length c1 by rw [hval]; rfl)
    have E17 := Lib.hid (show val.getD 17 undef = .slice (some ⟨b2, o2, none⟩) l.length uc by rw [hval]; rfl)
    have E18 := Lib.hid (show val.getD 18 undef = .int .i64 (k : Int) by rw [hval]; rfl)
    have E19 := Lib.hid (show val.getD 19 undef = .pointer (some ⟨b2, o2 + k * 3, none⟩) by rw [hval]; rfl)
    have E20 := Lib.hid (show val.getD 20 undef = .pointer (some ⟨b2, o2 + k * 3 + 1, none⟩) by rw [hval]; rfl)
    have E21 := Lib.hid (show val.getD 21 undef = .slice a3 x.d.length c3 by rw [hval]; rfl)
    have E22 := Lib.hid (show val.getD 22 undef = .bool true by rw [hval]; rfl)
    have E23 := Lib.hid (show val.getD 23 undef = .bool false by rw [hval]; rfl)
    have E24 := Lib.hid (show val.getD 24 undef = .bool false by rw [hval]; rfl)
    have E25 := Lib.hid (show val.getD 25 undef = .bool false by rw [hval]; rfl)
    have E26 := Lib.hid (show val.getD 26 undef = .slice (some ⟨b1, o1, none⟩) l.length vc by rw [hval]; rfl)
    have E27 := Lib.hid (show val.getD 27 undef = .int .i64 (k : Int) by rw [hval]; rfl)
    have E28 := Lib.hid (show val.getD 28 undef = .pointer (some ⟨b1, o1 + k * 3, none⟩) by rw [hval]; rfl)
    have E29 := Lib.hid (show val.getD 29 undef = .pointer (some ⟨b1, o1 + k * 3 + 2, none⟩) by rw [hval]; rfl)
    have E30 := Lib.hid (show val.getD 30 undef = .slice a2 x.p.length c2 by rw [hval]; rfl)
    have E31 := Lib.hid (show val.getD 31 undef = .slice (some ⟨b2, o2, none⟩) l.length uc by rw [hval]; rfl)
    have E32 := Lib.hid (show val.getD 32 undef = .int .i64 (k : Int) by rw [hval]; rfl)
    have E33 := Lib.hid (show val.getD 33 undef = .pointer (some ⟨b2, o2 + k * 3, none⟩) by rw [hval]; rfl)
    have E34 := Lib.hid (show val.getD 34 undef = .pointer (some ⟨b2, o2 + k * 3 + 2, none⟩) by rw [hval]; rfl)
    have E35 := Lib.hid (show val.getD 35 undef = .slice a4 x.p.length c4 by rw [hval]; rfl)
    have E36 := Lib.hid (show val.getD 36 undef = .bool true by rw [hval]; rfl)
    have E37 := Lib.hid (show val.getD 37 undef = .bool false by rw [hval]; rfl)
    have E38 := Lib.hid (show val.getD 38 undef = .bool false by rw [hval]; rfl)
    clear hval
    obtain ⟨G, hG0⟩ : ∃ G : Nat → Value → World → Prop, G = (fun i v w => (v = val.getD i undef)) := ⟨_, rfl⟩
    have HG := Lib.hid hG0
    clear hG0
    refine region_inv (RS lit wr G) (by kernel_rfl) (by decide +kernel) ?_ ?_ ?_
    · exact ⟨fun i => ([u17, u18, u19, u20, u21, u22, u23, u24, u25, u26, u27, u28, u29, u30, u31, u32, u33, u34, u35, u36, u37, u38, u39, u40, u41, u42, u43, u44, u45, u46, u47, u48, u49, u50, u51, u52, u53, u54, u55] : List Value).getD i undef, (by rw [HLIT.out]; rfl), below_drew _ _, fun i h => by cases h⟩
    · refine ⟨?_, ?_, ?_, ?_, ?_, ?_, ?_, ?_, ?_, ?_, ?_, ?_, ?_, ?_, ?_, ?_, ?_, ?_, ?_, ?_, ?_, ?_, ?_, ?_, ?_, ?_, ?_, ?_, ?_, ?_, ?_, ?_, ?_, ?_, ?_, ?_, ?_, ?_, ?_, trivial⟩
      · intro bf ac wv hfb haf hJ K' hK
        obtain ⟨vs, rfl, hM, j4⟩ := hJ
        replace hK := Lib.hid hK
        replace hM := Lib.hid hM
        rw [HG.out] at j4
        replace j4 := Lib.hid j4
        clear haf hfb
        rw [HLIT.out]
        go_simp
        exact hK.out _ _ (RS.next (wv := wv) (vs := vs) 0 (x := .slice (some ⟨b1, o1, none⟩) l.length vc) (by rw [HLIT.out]; rfl) (by rw [HG.out]; exact j4.out) hM.out (by rw [HG.out]; exact fun _ _ h => h) (by rw [HG.out]; exact E0.out.symm))
      · intro bf ac wv hfb haf hJ K' hK
        obtain ⟨vs, rfl, hM, j4⟩ := hJ
        replace hK := Lib.hid hK
        replace hM := Lib.hid hM
        rw [HG.out] at j4
        replace j4 := Lib.hid j4
        clear haf hfb
        rw [HLIT.out]
        go_simp
        exact hK.out _ _ (RS.next (wv := wv) (vs := vs) 1 (x := .int .i64 (k : Int)) (by rw [HLIT.out]; rfl) (by rw [HG.out]; exact j4.out) hM.out (by rw [HG.out]; exact fun _ _ h => h) (by rw [HG.out]; exact E1.out.symm))
      · intro bf ac wv hfb haf hJ K' hK
        obtain ⟨vs, rfl, hM, j4⟩ := hJ
        replace hK := Lib.hid hK
        replace hM := Lib.hid hM
        rw [HG.out] at j4
        simp [Region.binds] at haf
        have e0 := ((j4 0 (by simp [haf]))).trans E0.out
        have e1 := ((j4 1 (by simp [haf]))).trans E1.out
        replace j4 := Lib.hid j4
        clear haf hfb
        have t3 := HIL.out
        rw [HLIT.out]
        go_simp
        exact hK.out _ _ (RS.next (wv := wv) (vs := vs) 2 (x := .pointer (some ⟨b1, o1 + k * 3, none⟩)) (by rw [HLIT.out]; simp only [upv, e0, e1, Nat.reduceBEq, cond_true, cond_false]) (by rw [HG.out]; exact j4.out) hM.out (by rw [HG.out]; exact fun _ _ h => h) (by rw [HG.out]; exact E2.out.symm))
      · intro bf ac wv hfb haf hJ K' hK
        obtain ⟨vs, rfl, hM, j4⟩ := hJ
        replace hK := Lib.hid hK
        replace hM := Lib.hid hM
        rw [HG.out] at j4
        simp [Region.binds] at haf
        have e2 := ((j4 2 (by simp [haf]))).trans E2.out
        replace j4 := Lib.hid j4
        clear haf hfb
        rw [HLIT.out]
        go_simp
        exact hK.out _ _ (RS.next (wv := wv) (vs := vs) 3 (x := .pointer (some ⟨b1, o1 + k * 3, none⟩)) (by rw [HLIT.out]; simp only [upv, e2, Nat.reduceBEq, cond_true, cond_false]) (by rw [HG.out]; exact j4.out) hM.out (by rw [HG.out]; exact fun _ _ h => h) (by rw [HG.out]; exact E3.out.symm))
      · intro bf ac wv hfb haf hJ K' hK
        obtain ⟨vs, rfl, hM, j4⟩ := hJ
        replace hK := Lib.hid hK
        replace hM := Lib.hid hM
        rw [HG.out] at j4
        simp [Region.binds] at haf
        have e3 := ((j4 3 (by simp [haf]))).trans E3.out
        replace j4 := Lib.hid j4
        clear haf hfb
        have q9 := keep1 HB.out PX.out.1
        replace q9 := keep1 hM.out q9
        have qz := World.block_lt_of_cell? _ _ q9
        have qz : b1 < wv.heap.size := qz
        rw [HLIT.out]
        go_simp
        exact hK.out _ _ (RS.next (wv := wv) (vs := vs) 4 (x := .int .i64 x.i) (by rw [HLIT.out]; simp only [upv, e3, Nat.reduceBEq, cond_true, cond_false]) (by rw [HG.out]; exact j4.out) hM.out (by rw [HG.out]; exact fun _ _ h => h) (by rw [HG.out]; exact E4.out.symm))
      · intro bf ac wv hfb haf hJ K' hK
        obtain ⟨vs, rfl, hM, j4⟩ := hJ
        replace hK := Lib.hid hK
        replace hM := Lib.hid hM
        rw [HG.out] at j4
        replace j4 := Lib.hid j4
        clear haf hfb
        rw [HLIT.out]
        go_simp
        exact hK.out _ _ (RS.next (wv := wv) (vs := vs) 5 (x := .slice (some ⟨b2, o2, none⟩) l.length uc) (by rw [HLIT.out]; rfl) (by rw [HG.out]; exact j4.out) hM.out (by rw [HG.out]; exact fun _ _ h => h) (by rw [HG.out]; exact E5.out.symm))
      · intro bf ac wv hfb haf hJ K' hK
        obtain ⟨vs, rfl, hM, j4⟩ := hJ
        replace hK := Lib.hid hK
        replace hM := Lib.hid hM
        rw [HG.out] at j4
        replace j4 := Lib.hid j4
        clear haf hfb
        rw [HLIT.out]
        go_simp
        exact hK.out _ _ (RS.next (wv := wv) (vs := vs) 6 (x := .int .i64 (k : Int)) (by rw [HLIT.out]; rfl) (by rw [HG.out]; exact j4.out) hM.out (by rw [HG.out]; exact fun _ _ h => h) (by rw [HG.out]; exact E6.out.symm))
      · intro bf ac wv hfb haf hJ K' hK
        obtain ⟨vs, rfl, hM, j4⟩ := hJ
        replace hK := Lib.hid hK
        replace hM := Lib.hid hM
        rw [HG.out] at j4
        simp [Region.binds] at haf
        have e5 := ((j4 5 (by simp [haf]))).trans E5.out
        have e6 := ((j4 6 (by simp [haf]))).trans E6.out
        replace j4 := Lib.hid j4
        clear haf hfb
        have t3 := HIL.out
        rw [HLIT.out]
        go_simp
        exact hK.out _ _ (RS.next (wv := wv) (vs := vs) 7 (x := .pointer (some ⟨b2, o2 + k * 3, none⟩)) (by rw [HLIT.out]; simp only [upv, e5, e6, Nat.reduceBEq, cond_true, cond_false]) (by rw [HG.out]; exact j4.out) hM.out (by rw [HG.out]; exact fun _ _ h => h) (by rw [HG.out]; exact E7.out.symm))
      · intro bf ac wv hfb haf hJ K' hK
        obtain ⟨vs, rfl, hM, j4⟩ := hJ
        replace hK := Lib.hid hK
        replace hM := Lib.hid hM
        rw [HG.out] at j4
        simp [Region.binds] at haf
        have e7 := ((j4 7 (by simp [haf]))).trans E7.out
        replace j4 := Lib.hid j4
        clear haf hfb
        rw [HLIT.out]
        go_simp
        exact hK.out _ _ (RS.next (wv := wv) (vs := vs) 8 (x := .pointer (some ⟨b2, o2 + k * 3, none⟩)) (by rw [HLIT.out]; simp only [upv, e7, Nat.reduceBEq, cond_true, cond_false]) (by rw [HG.out]; exact j4.out) hM.out (by rw [HG.out]; exact fun _ _ h => h) (by rw [HG.out]; exact E8.out.symm))
      · intro bf ac wv hfb haf hJ K' hK
        obtain ⟨vs, rfl, hM, j4⟩ := hJ
        replace hK := Lib.hid hK
        replace hM := Lib.hid hM
        rw [HG.out] at j4
        simp [Region.binds] at haf
        have e8 := ((j4 8 (by simp [haf]))).trans E8.out
        replace j4 := Lib.hid j4
        clear haf hfb
        have q9 := keep1 HB.out QX.out.1
        replace q9 := keep1 hM.out q9
        have qz := World.block_lt_of_cell? _ _ q9
        have qz : b2 < wv.heap.size := qz
        rw [HLIT.out]
        go_simp
        exact hK.out _ _ (RS.next (wv := wv) (vs := vs) 9 (x := .int .i64 x.i) (by rw [HLIT.out]; simp only [upv, e8, Nat.reduceBEq, cond_true, cond_false]) (by rw [HG.out]; exact j4.out) hM.out (by rw [HG.out]; exact fun _ _ h => h) (by rw [HG.out]; exact E9.out.symm))
      · intro bf ac wv hfb haf hJ K' hK
        obtain ⟨vs, rfl, hM, j4⟩ := hJ
        replace hK := Lib.hid hK
        replace hM := Lib.hid hM
        rw [HG.out] at j4
        simp [Region.binds] at haf
        have e4 := ((j4 4 (by simp [haf]))).trans E4.out
        have e9 := ((j4 9 (by simp [haf]))).trans E9.out
        replace j4 := Lib.hid j4
        clear haf hfb
        rw [HLIT.out]
        go_simp
        exact hK.out _ _ (RS.next (wv := wv) (vs := vs) 10 (x := .bool false) (by rw [HLIT.out]; simp only [upv, e4, e9, Nat.reduceBEq, cond_true, cond_false]) (by rw [HG.out]; exact j4.out) hM.out (by rw [HG.out]; exact fun _ _ h => h) (by rw [HG.out]; exact E10.out.symm))
      · intro bf ac wv hfb haf hJ K' hK
        obtain ⟨vs, rfl, hM, j4⟩ := hJ
        replace hK := Lib.hid hK
        replace hM := Lib.hid hM
        rw [HG.out] at j4
        simp [Region.binds] at haf
        have e10 := ((j4 10 (by simp [haf]))).trans E10.out
        replace j4 := Lib.hid j4
        clear haf hfb
        rw [HLIT.out]
        go_simp
        exact hK.out _ _ (RS.next (wv := wv) (vs := vs) 11 (x := .bool false) (by rw [HLIT.out]; simp only [upv, e10, Nat.reduceBEq, cond_true, cond_false]) (by rw [HG.out]; exact j4.out) hM.out (by rw [HG.out]; exact fun _ _ h => h) (by rw [HG.out]; exact E11.out.symm))
      · intro bf ac wv hfb haf hJ K' hK
        obtain ⟨vs, rfl, hM, j4⟩ := hJ
        replace hK := Lib.hid hK
        replace hM := Lib.hid hM
        rw [HG.out] at j4
        simp [Region.binds] at haf
        have e11 := ((j4 11 (by simp [haf]))).trans E11.out
        replace j4 := Lib.hid j4
        clear haf hfb
        rw [HLIT.out]
        go_simp
        exact hK.out _ _ (RS.next (wv := wv) (vs := vs) 12 (x := .slice (some ⟨b1, o1, none⟩) l.length vc) (by rw [HLIT.out]; simp only [upv, e11, Nat.reduceBEq, cond_true, cond_false]) (by rw [HG.out]; exact j4.out) hM.out (by rw [HG.out]; exact fun _ _ h => h) (by rw [HG.out]; exact E12.out.symm))
      · intro bf ac wv hfb haf hJ K' hK
        obtain ⟨vs, rfl, hM, j4⟩ := hJ
        replace hK := Lib.hid hK
        replace hM := Lib.hid hM
        rw [HG.out] at j4
        simp [Region.binds] at haf
        have e11 := ((j4 11 (by simp [haf]))).trans E11.out
        replace j4 := Lib.hid j4
        clear haf hfb
        rw [HLIT.out]
        go_simp
        exact hK.out _ _ (RS.next (wv := wv) (vs := vs) 13 (x := .int .i64 (k : Int)) (by rw [HLIT.out]; simp only [upv, e11, Nat.reduceBEq, cond_true, cond_false]) (by rw [HG.out]; exact j4.out) hM.out (by rw [HG.out]; exact fun _ _ h => h) (by rw [HG.out]; exact E13.out.symm))
      · intro bf ac wv hfb haf hJ K' hK
        obtain ⟨vs, rfl, hM, j4⟩ := hJ
        replace hK := Lib.hid hK
        replace hM := Lib.hid hM
        rw [HG.out] at j4
        simp [Region.binds] at haf
        have e11 := ((j4 11 (by simp [haf]))).trans E11.out
        have e12 := ((j4 12 (by simp [haf]))).trans E12.out
        have e13 := ((j4 13 (by simp [haf]))).trans E13.out
        replace j4 := Lib.hid j4
        clear haf hfb
        have t3 := HIL.out
        rw [HLIT.out]
        go_simp
        exact hK.out _ _ (RS.next (wv := wv) (vs := vs) 14 (x := .pointer (some ⟨b1, o1 + k * 3, none⟩)) (by rw [HLIT.out]; simp only [upv, e11, e12, e13, Nat.reduceBEq, cond_true, cond_false]) (by rw [HG.out]; exact j4.out) hM.out (by rw [HG.out]; exact fun _ _ h => h) (by rw [HG.out]; exact E14.out.symm))
      · intro bf ac wv hfb haf hJ K' hK
        obtain ⟨vs, rfl, hM, j4⟩ := hJ
        replace hK := Lib.hid hK
        replace hM := Lib.hid hM
        rw [HG.out] at j4
        simp [Region.binds] at haf
        have e11 := ((j4 11 (by simp [haf]))).trans E11.out
        have e14 := ((j4 14 (by simp [haf]))).trans E14.out
        replace j4 := Lib.hid j4
        clear haf hfb
        rw [HLIT.out]
        go_simp
        exact hK.out _ _ (RS.next (wv := wv) (vs := vs) 15 (x := .pointer (some ⟨b1, o1 + k * 3 + 1, none⟩)) (by rw [HLIT.out]; simp only [upv, e11, e14, Nat.reduceBEq, cond_true, cond_false]) (by rw [HG.out]; exact j4.out) hM.out (by rw [HG.out]; exact fun _ _ h => h) (by rw [HG.out]; exact E15.out.symm))
      · intro bf ac wv hfb haf hJ K' hK
        obtain ⟨vs, rfl, hM, j4⟩ := hJ
        replace hK := Lib.hid hK
        replace hM := Lib.hid hM
        rw [HG.out] at j4
        simp [Region.binds] at haf
        have e11 := ((j4 11 (by simp [haf]))).trans E11.out
        have e15 := ((j4 15 (by simp [haf]))).trans E15.out
        replace j4 := Lib.hid j4
        clear haf hfb
        have q9 := keep1 HB.out PX.out.2.1
        replace q9 := keep1 hM.out q9
        have qz := World.block_lt_of_cell? _ _ q9
        have qz : b1 < wv.heap.size := qz
        rw [HLIT.out]
        go_simp
        exact hK.out _ _ (RS.next (wv := wv) (vs := vs) 16 (x := .slice a1 x.d.length c1) (by rw [HLIT.out]; simp only [upv, e11, e15, Nat.reduceBEq, cond_true, cond_false]) (by rw [HG.out]; exact j4.out) hM.out (by rw [HG.out]; exact fun _ _ h => h) (by rw [HG.out]; exact E16.out.symm))
      · intro bf ac wv hfb haf hJ K' hK
        obtain ⟨vs, rfl, hM, j4⟩ := hJ
        replace hK := Lib.hid hK
        replace hM := Lib.hid hM
        rw [HG.out] at j4
        simp [Region.binds] at haf
        have e11 := ((j4 11 (by simp [haf]))).trans E11.out
        replace j4 := Lib.hid j4
        clear haf hfb
        rw [HLIT.out]
        go_simp
        exact hK.out _ _ (RS.next (wv := wv) (vs := vs) 17 (x := .slice (some ⟨b2, o2, none⟩) l.length uc) (by rw [HLIT.out]; simp only [upv, e11, Nat.reduceBEq, cond_true, cond_false]) (by rw [HG.out]; exact j4.out) hM.out (by rw [HG.out]; exact fun _ _ h => h) (by rw [HG.out]; exact E17.out.symm))
      · intro bf ac wv hfb haf hJ K' hK
        obtain ⟨vs, rfl, hM, j4⟩ := hJ
        replace hK := Lib.hid hK
        replace hM := Lib.hid hM
        rw [HG.out] at j4
        simp [Region.binds] at haf
        have e11 := ((j4 11 (by simp [haf]))).trans E11.out
        replace j4 := Lib.hid j4
        clear haf hfb
        rw [HLIT.out]
        go_simp
        exact hK.out _ _ (RS.next (wv := wv) (vs := vs) 18 (x := .int .i64 (k : Int)) (by rw [HLIT.out]; simp only [upv, e11, Nat.reduceBEq, cond_true, cond_false]) (by rw [HG.out]; exact j4.out) hM.out (by rw [HG.out]; exact fun _ _ h => h) (by rw [HG.out]; exact E18.out.symm))
      · intro bf ac wv hfb haf hJ K' hK
        obtain ⟨vs, rfl, hM, j4⟩ := hJ
        replace hK := Lib.hid hK
        replace hM := Lib.hid hM
        rw [HG.out] at j4
        simp [Region.binds] at haf
        have e11 := ((j4 11 (by simp [haf]))).trans E11.out
        have e17 := ((j4 17 (by simp [haf]))).trans E17.out
        have e18 := ((j4 18 (by simp [haf]))).trans E18.out
        replace j4 := Lib.hid j4
        clear haf hfb
        have t3 := HIL.out
        rw [HLIT.out]
        go_simp
        exact hK.out _ _ (RS.next (wv := wv) (vs := vs) 19 (x := .pointer (some ⟨b2, o2 + k * 3, none⟩)) (by rw [HLIT.out]; simp only [upv, e11, e17, e18, Nat.reduceBEq, cond_true, cond_false]) (by rw [HG.out]; exact j4.out) hM.out (by rw [HG.out]; exact fun _ _ h => h) (by rw [HG.out]; exact E19.out.symm))
      · intro bf ac wv hfb haf hJ K' hK
        obtain ⟨vs, rfl, hM, j4⟩ := hJ
        replace hK := Lib.hid hK
        replace hM := Lib.hid hM
        rw [HG.out] at j4
        simp [Region.binds] at haf
        have e11 := ((j4 11 (by simp [haf]))).trans E11.out
        have e19 := ((j4 19 (by simp [haf]))).trans E19.out
        replace j4 := Lib.hid j4
        clear haf hfb
        rw [HLIT.out]
        go_simp
        exact hK.out _ _ (RS.next (wv := wv) (vs := vs) 20 (x := .pointer (some ⟨b2, o2 + k * 3 + 1, none⟩)) (by rw [HLIT.out]; simp only [upv, e11, e19, Nat.reduceBEq, cond_true, cond_false]) (by rw [HG.out]; exact j4.out) hM.out (by rw [HG.out]; exact fun _ _ h => h) (by rw [HG.out]; exact E20.out.symm))
      · intro bf ac wv hfb haf hJ K' hK
        obtain ⟨vs, rfl, hM, j4⟩ := hJ
        replace hK := Lib.hid hK
        replace hM := Lib.hid hM
        rw [HG.out] at j4
        simp [Region.binds] at haf
        have e11 := ((j4 11 (by simp [haf]))).trans E11.out
        have e20 := ((j4 20 (by simp [haf]))).trans E20.out
        replace j4 := Lib.hid j4
        clear haf hfb
        have q9 := keep1 HB.out QX.out.2.1
        replace q9 := keep1 hM.out q9
        have qz := World.block_lt_of_cell? _ _ q9
        have qz : b2 < wv.heap.size := qz
        rw [HLIT.out]
        go_simp
        exact hK.out _ _ (RS.next (wv := wv) (vs := vs) 21 (x := .slice a3 x.d.length c3) (by rw [HLIT.out]; simp only [upv, e11, e20, Nat.reduceBEq, cond_true, cond_false]) (by rw [HG.out]; exact j4.out) hM.out (by rw [HG.out]; exact fun _ _ h => h) (by rw [HG.out]; exact E21.out.symm))
      · intro bf ac wv hfb haf hJ K' hK
        obtain ⟨vs, rfl, hM, j4⟩ := hJ
        replace hK := Lib.hid hK
        replace hM := Lib.hid hM
        rw [HG.out] at j4
        simp [Region.binds] at haf
        have e11 := ((j4 11 (by simp [haf]))).trans E11.out
        have e16 := ((j4 16 (by simp [haf]))).trans E16.out
        have e21 := ((j4 21 (by simp [haf]))).trans E21.out
        replace j4 := Lib.hid j4
        clear haf hfb
        rw [HLIT.out]
        go_simp
        go_at_call 21
        refine (intsB_any _ _ x.d _ ((P3.out.step HB.out).step hM.out) ((Q3.out.step HB.out).step hM.out)).mono ?_
        rintro e w4 ⟨rfl, b4⟩
        exact hK.out _ _ (RS.next (wv := wv) (vs := vs) 22 (x := .bool true) (by rw [HLIT.out]; simp only [upv, e11, e16, e21, Nat.reduceBEq, cond_true, cond_false]) (by rw [HG.out]; exact j4.out) (keep2 b4 hM.out) (by rw [HG.out]; exact fun _ _ h => h) (by rw [HG.out]; exact E22.out.symm))
      · intro bf ac wv hfb haf hJ K' hK
        obtain ⟨vs, rfl, hM, j4⟩ := hJ
        replace hK := Lib.hid hK
        replace hM := Lib.hid hM
        rw [HG.out] at j4
        simp [Region.binds] at haf
        have e11 := ((j4 11 (by simp [haf]))).trans E11.out
        have e22 := ((j4 22 (by simp [haf]))).trans E22.out
        replace j4 := Lib.hid j4
        clear haf hfb
        rw [HLIT.out]
        go_simp
        exact hK.out _ _ (RS.next (wv := wv) (vs := vs) 23 (x := .bool false) (by rw [HLIT.out]; simp only [upv, e11, e22, Nat.reduceBEq, cond_true, cond_false]) (by rw [HG.out]; exact j4.out) hM.out (by rw [HG.out]; exact fun _ _ h => h) (by rw [HG.out]; exact E23.out.symm))
      · intro bf ac wv hfb haf hJ K' hK
        obtain ⟨vs, rfl, hM, j4⟩ := hJ
        replace hK := Lib.hid hK
        replace hM := Lib.hid hM
        rw [HG.out] at j4
        simp [Region.binds] at haf
        have e11 := ((j4 11 (by simp [haf]))).trans E11.out
        have e23 := ((j4 23 (by simp [haf]))).trans E23.out
        replace j4 := Lib.hid j4
        clear haf hfb
        rw [HLIT.out]
        go_simp
        exact hK.out _ _ (RS.next (wv := wv) (vs := vs) 24 (x := .bool false) (by rw [HLIT.out]; simp only [upv, e11, e23, Nat.reduceBEq, cond_true, cond_false]) (by rw [HG.out]; exact j4.out) hM.out (by rw [HG.out]; exact fun _ _ h => h) (by rw [HG.out]; exact E24.out.symm))
      · intro bf ac wv hfb haf hJ K' hK
        obtain ⟨vs, rfl, hM, j4⟩ := hJ
        replace hK := Lib.hid hK
        replace hM := Lib.hid hM
        rw [HG.out] at j4
        simp [Region.binds] at haf
        have e24 := ((j4 24 (by simp [haf]))).trans E24.out
        replace j4 := Lib.hid j4
        clear haf hfb
        rw [HLIT.out]
        go_simp
        exact hK.out _ _ (RS.next (wv := wv) (vs := vs) 25 (x := .bool false) (by rw [HLIT.out]; simp only [upv, e24, Nat.reduceBEq, cond_true, cond_false]) (by rw [HG.out]; exact j4.out) hM.out (by rw [HG.out]; exact fun _ _ h => h) (by rw [HG.out]; exact E25.out.symm))
      · intro bf ac wv hfb haf hJ K' hK
        obtain ⟨vs, rfl, hM, j4⟩ := hJ
        replace hK := Lib.hid hK
        replace hM := Lib.hid hM
        rw [HG.out] at j4
        simp [Region.binds] at haf
        have e25 := ((j4 25 (by simp [haf]))).trans E25.out
        replace j4 := Lib.hid j4
        clear haf hfb
        rw [HLIT.out]
        go_simp
        exact hK.out _ _ (RS.next (wv := wv) (vs := vs) 26 (x := .slice (some ⟨b1, o1, none⟩) l.length vc) (by rw [HLIT.out]; simp only [upv, e25, Nat.reduceBEq, cond_true, cond_false]) (by rw [HG.out]; exact j4.out) hM.out (by rw [HG.out]; exact fun _ _ h => h) (by rw [HG.out]; exact E26.out.symm))
      · intro bf ac wv hfb haf hJ K' hK
        obtain ⟨vs, rfl, hM, j4⟩ := hJ
        replace hK := Lib.hid hK
        replace hM := Lib.hid hM
        rw [HG.out] at j4
        simp [Region.binds] at haf
        have e25 := ((j4 25 (by simp [haf]))).trans E25.out
        replace j4 := Lib.hid j4
        clear haf hfb
        rw [HLIT.out]
        go_simp
        exact hK.out _ _ (RS.next (wv := wv) (vs := vs) 27 (x := .int .i64 (k : Int)) (by rw [HLIT.out]; simp only [upv, e25, Nat.reduceBEq, cond_true, cond_false]) (by rw [HG.out]; exact j4.out) hM.out (by rw [HG.out]; exact fun _ _ h => h) (by rw [HG.out]; exact E27.out.symm))
      · intro bf ac wv hfb haf hJ K' hK
        obtain ⟨vs, rfl, hM, j4⟩ := hJ
        replace hK := Lib.hid hK
        replace hM := Lib.hid hM
        rw [HG.out] at j4
        simp [Region.binds] at haf
        have e25 := ((j4 25 (by simp [haf]))).trans E25.out
        have e26 := ((j4 26 (by simp [haf]))).trans E26.out
        have e27 := ((j4 27 (by simp [haf]))).trans E27.out
        replace j4 := Lib.hid j4
        clear haf hfb
        have t3 := HIL.out
        rw [HLIT.out]
        go_simp
        exact hK.out _ _ (RS.next (wv := wv) (vs := vs) 28 (x := .pointer (some ⟨b1, o1 + k * 3, none⟩)) (by rw [HLIT.out]; simp only [upv, e25, e26, e27, Nat.reduceBEq, cond_true, cond_false]) (by rw [HG.out]; exact j4.out) hM.out (by rw [HG.out]; exact fun _ _ h => h) (by rw [HG.out]; exact E28.out.symm))
      · intro bf ac wv hfb haf hJ K' hK
        obtain ⟨vs, rfl, hM, j4⟩ := hJ
        replace hK := Lib.hid hK
        replace hM := Lib.hid hM
        rw [HG.out] at j4
        simp [Region.binds] at haf
        have e25 := ((j4 25 (by simp [haf]))).trans E25.out
        have e28 := ((j4 28 (by simp [haf]))).trans E28.out
        replace j4 := Lib.hid j4
        clear haf hfb
        rw [HLIT.out]
        go_simp
        exact hK.out _ _ (RS.next (wv := wv) (vs := vs) 29 (x := .pointer (some ⟨b1, o1 + k * 3 + 2, none⟩)) (by rw [HLIT.out]; simp only [upv, e25, e28, Nat.reduceBEq, cond_true, cond_false]) (by rw [HG.out]; exact j4.out) hM.out (by rw [HG.out]; exact fun _ _ h => h) (by rw [HG.out]; exact E29.out.symm))
      · intro bf ac wv hfb haf hJ K' hK
        obtain ⟨vs, rfl, hM, j4⟩ := hJ
        replace hK := Lib.hid hK
        replace hM := Lib.hid hM
        rw [HG.out] at j4
        simp [Region.binds] at haf
        have e25 := ((j4 25 (by simp [haf]))).trans E25.out
        have e29 := ((j4 29 (by simp [haf]))).trans E29.out
        replace j4 := Lib.hid j4
        clear haf hfb
        have q9 := keep1 HB.out PX.out.2.2
        replace q9 := keep1 hM.out q9
        have qz := World.block_lt_of_cell? _ _ q9
        have qz : b1 < wv.heap.size := qz
        rw [HLIT.out]
        go_simp
        exact hK.out _ _ (RS.next (wv := wv) (vs := vs) 30 (x := .slice a2 x.p.length c2) (by rw [HLIT.out]; simp only [upv, e25, e29, Nat.reduceBEq, cond_true, cond_false]) (by rw [HG.out]; exact j4.out) hM.out (by rw [HG.out]; exact fun _ _ h => h) (by rw [HG.out]; exact E30.out.symm))
      · intro bf ac wv hfb haf hJ K' hK
        obtain ⟨vs, rfl, hM, j4⟩ := hJ
        replace hK := Lib.hid hK
        replace hM := Lib.hid hM
        rw [HG.out] at j4
        simp [Region.binds] at haf
        have e25 := ((j4 25 (by simp [haf]))).trans E25.out
        replace j4 := Lib.hid j4
        clear haf hfb
        rw [HLIT.out]
        go_simp
        exact hK.out _ _ (RS.next (wv := wv) (vs := vs) 31 (x := .slice (some ⟨b2, o2, none⟩) l.length uc) (by rw [HLIT.out]; simp only [upv, e25, Nat.reduceBEq, cond_true, cond_false]) (by rw [HG.out]; exact j4.out) hM.out (by rw [HG.out]; exact fun _ _ h => h) (by rw [HG.out]; exact E31.out.symm))
      · intro bf ac wv hfb haf hJ K' hK
        obtain ⟨vs, rfl, hM, j4⟩ := hJ
        replace hK := Lib.hid hK
        replace hM := Lib.hid hM
        rw [HG.out] at j4
        simp [Region.binds] at haf
        have e25 := ((j4 25 (by simp [haf]))).trans E25.out
        replace j4 := Lib.hid j4
        clear haf hfb
        rw [HLIT.out]
        go_simp
        exact hK.out _ _ (RS.next (wv := wv) (vs := vs) 32 (x := .int .i64 (k : Int)) (by rw [HLIT.out]; simp only [upv, e25, Nat.reduceBEq, cond_true, cond_false]) (by rw [HG.out]; exact j4.out) hM.out (by rw [HG.out]; exact fun _ _ h => h) (by rw [HG.out]; exact E32.out.symm))
      · intro bf ac wv hfb haf hJ K' hK
        obtain ⟨vs, rfl, hM, j4⟩ := hJ
        replace hK := Lib.hid hK
        replace hM := Lib.hid hM
        rw [HG.out] at j4
        simp [Region.binds] at haf
        have e25 := ((j4 25 (by simp [haf]))).trans E25.out
        have e31 := ((j4 31 (by simp [haf]))).trans E31.out
        have e32 := ((j4 32 (by simp [haf]))).trans E32.out
        replace j4 := Lib.hid j4
        clear haf hfb
        have t3 := HIL.out
        rw [HLIT.out]
        go_simp
        exact hK.out _ _ (RS.next (wv := wv) (vs := vs) 33 (x := .pointer (some ⟨b2, o2 + k * 3, none⟩)) (by rw [HLIT.out]; simp only [upv, e25, e31, e32, Nat.reduceBEq, cond_true, cond_false]) (by rw [HG.out]; exact j4.out) hM.out (by rw [HG.out]; exact fun _ _ h => h) (by rw [HG.out]; exact E33.out.symm))
      · intro bf ac wv hfb haf hJ K' hK
        obtain ⟨vs, rfl, hM, j4⟩ := hJ
        replace hK := Lib.hid hK
        replace hM := Lib.hid hM
        rw [HG.out] at j4
        simp [Region.binds] at haf
        have e25 := ((j4 25 (by simp [haf]))).trans E25.out
        have e33 := ((j4 33 (by simp [haf]))).trans E33.out
        replace j4 := Lib.hid j4
        clear haf hfb
        rw [HLIT.out]
        go_simp
        exact hK.out _ _ (RS.next (wv := wv) (vs := vs) 34 (x := .pointer (some ⟨b2, o2 + k * 3 + 2, none⟩)) (by rw [HLIT.out]; simp only [upv, e25, e33, Nat.reduceBEq, cond_true, cond_false]) (by rw [HG.out]; exact j4.out) hM.out (by rw [HG.out]; exact fun _ _ h => h) (by rw [HG.out]; exact E34.out.symm))
      · intro bf ac wv hfb haf hJ K' hK
        obtain ⟨vs, rfl, hM, j4⟩ := hJ
        replace hK := Lib.hid hK
        replace hM := Lib.hid hM
        rw [HG.out] at j4
        simp [Region.binds] at haf
        have e25 := ((j4 25 (by simp [haf]))).trans E25.out
        have e34 := ((j4 34 (by simp [haf]))).trans E34.out
        replace j4 := Lib.hid j4
        clear haf hfb
        have q9 := keep1 HB.out QX.out.2.2
        replace q9 := keep1 hM.out q9
        have qz := World.block_lt_of_cell? _ _ q9
        have qz : b2 < wv.heap.size := qz
        rw [HLIT.out]
        go_simp
        exact hK.out _ _ (RS.next (wv := wv) (vs := vs) 35 (x := .slice a4 x.p.length c4) (by rw [HLIT.out]; simp only [upv, e25, e34, Nat.reduceBEq, cond_true, cond_false]) (by rw [HG.out]; exact j4.out) hM.out (by rw [HG.out]; exact fun _ _ h => h) (by rw [HG.out]; exact E35.out.symm))
      · intro bf ac wv hfb haf hJ K' hK
        obtain ⟨vs, rfl, hM, j4⟩ := hJ
        replace hK := Lib.hid hK
        replace hM := Lib.hid hM
        rw [HG.out] at j4
        simp [Region.binds] at haf
        have e25 := ((j4 25 (by simp [haf]))).trans E25.out
        have e30 := ((j4 30 (by simp [haf]))).trans E30.out
        have e35 := ((j4 35 (by simp [haf]))).trans E35.out
        replace j4 := Lib.hid j4
        clear haf hfb
        rw [HLIT.out]
        go_simp
        go_at_call 21
        refine (intsB_any _ _ x.p _ ((P4.out.step HB.out).step hM.out) ((Q4.out.step HB.out).step hM.out)).mono ?_
        rintro e w4 ⟨rfl, b4⟩
        exact hK.out _ _ (RS.next (wv := wv) (vs := vs) 36 (x := .bool true) (by rw [HLIT.out]; simp only [upv, e25, e30, e35, Nat.reduceBEq, cond_true, cond_false]) (by rw [HG.out]; exact j4.out) (keep2 b4 hM.out) (by rw [HG.out]; exact fun _ _ h => h) (by rw [HG.out]; exact E36.out.symm))
      · intro bf ac wv hfb haf hJ K' hK
        obtain ⟨vs, rfl, hM, j4⟩ := hJ
        replace hK := Lib.hid hK
        replace hM := Lib.hid hM
        rw [HG.out] at j4
        simp [Region.binds] at haf
        have e25 := ((j4 25 (by simp [haf]))).trans E25.out
        have e36 := ((j4 36 (by simp [haf]))).trans E36.out
        replace j4 := Lib.hid j4
        clear haf hfb
        rw [HLIT.out]
        go_simp
        exact hK.out _ _ (RS.next (wv := wv) (vs := vs) 37 (x := .bool false) (by rw [HLIT.out]; simp only [upv, e25, e36, Nat.reduceBEq, cond_true, cond_false]) (by rw [HG.out]; exact j4.out) hM.out (by rw [HG.out]; exact fun _ _ h => h) (by rw [HG.out]; exact E37.out.symm))
      · intro bf ac wv hfb haf hJ K' hK
        obtain ⟨vs, rfl, hM, j4⟩ := hJ
        replace hK := Lib.hid hK
        replace hM := Lib.hid hM
        rw [HG.out] at j4
        simp [Region.binds] at haf
        have e25 := ((j4 25 (by simp [haf]))).trans E25.out
        have e37 := ((j4 37 (by simp [haf]))).trans E37.out
        replace j4 := Lib.hid j4
        clear haf hfb
        rw [HLIT.out]
        go_simp
        exact hK.out _ _ (RS.next (wv := wv) (vs := vs) 38 (x := .bool false) (by rw [HLIT.out]; simp only [upv, e25, e37, Nat.reduceBEq, cond_true, cond_false]) (by rw [HG.out]; exact j4.out) hM.out (by rw [HG.out]; exact fun _ _ h => h) (by rw [HG.out]; exact E38.out.symm))
    · intro bf ac wv hall hJ
      obtain ⟨vs, rfl, hM, j4⟩ := hJ
      rw [HG.out] at j4
      have e9 := ((j4 38 (hall 38 (by decide)))).trans E38.out
      have HB2 := Lib.hid (keep2 hM HB.out)
      clear hM j4 hall
      rw [HLIT.out]
      dsimp only
      rw [e9]
      clear e9 HLIT HG
      generalize vs = us8
      have hk9 : k ≤ 1000 := by have h1 := HIL.out; have h2 := H9.out; omega
      go_wp2
      go_roundw
      case rel => exact ⟨k + 1, HIL.out, by go_num, HB2⟩
      case measure => have := HIL.out; simp [intOf]; omega
open Go.RowKit

theorem fmF_more : ∀ (f g i c : Nat), c ≤ f → c ≤ g → fmF f i c = fmF g i c
  | 0, g, i, c, h, _ => by rw [fmF_end (by omega), fmF_end (by omega)]
  | f + 1, g, i, c, h, h2 => by
    by_cases g1 : 1 < c
    · rw [fmF_step g1 h, fmF_step g1 h2, Nat.add_sub_cancel, fmF_more f (g - 1) (i / 2) ((c + 1) / 2) (by omega) (by omega)]
    · rw [fmF_end g1, fmF_end g1]
theorem fmL_step {i c : Nat} (h : 1 < c) : fmL i c = (decide (i = c - 1) && decide (c % 2 = 1)) :: fmL (i / 2) ((c + 1) / 2) := by
  unfold fmL
  rw [fmF_step h (Nat.le_refl _), fmF_more (c - 1) ((c + 1) / 2) _ _ (by omega) (Nat.le_refl _)]
theorem fm_b {ck : Nat} (h : ck ≤ 64) : wrap64 (((ck : Int) + 1) / 2) = (((ck + 1) / 2 : Nat) : Int) := by
  rw [IntWalk.wrap64_in _ (by omega)]
  omega
theorem fm_h {ik : Nat} (h : ik ≤ 64) : wrap64 ((ik : Int) / 2) = ((ik / 2 : Nat) : Int) := by
  rw [IntWalk.wrap64_in _ (by omega)]
  omega
theorem fm_m {ck : Nat} (g : 1 < ck) (h : ck ≤ 64) : (intOf (.int .i64 (wrap64 (((ck : Int) + 1) / 2)))).toNat < (intOf (.int .i64 (ck : Int))).toNat := by
  rw [fm_b h]
  show (((ck + 1) / 2 : Nat) : Int).toNat < ((ck : Nat) : Int).toNat
  rw [Int.toNat_natCast, Int.toNat_natCast]
  omega
theorem fmL_end {i c : Nat} (h : ¬ 1 < c) : fmL i c = [] := fmF_end h
set_option maxRecDepth 100000 in
set_option maxHeartbeats 8000000 in
theorem rform_any (v : Value) (p : List Int) (i c : Nat) (w : World) (h : IntsAt w v p) (hc : c ≤ 64) (hi : i ≤ 64) (hp9 : p.length ≤ 1000) : Calls Try.prog 56 #[v, .int .i64 (i : Int), .int .i64 (c : Int)] w fun e w' => e = .returned (.bool (fmOK (fmL i c) p)) ∧ w = w' := by
  have HP := Lib.hid h
  have HPL := Lib.hid hp9
  obtain ⟨pa, pc, rfl, -, -⟩ := h
  clear hp9
  go_enter Try.func56, Try.ntmps56
  go_wp2_with fail
  go_loopw [1, 2, 7] (fun iv cv kv wr => ∃ (pre : List Bool) (ik ck : Nat), iv = .int .i64 (ik : Int) ∧ cv = .int .i64 (ck : Int) ∧ kv = .int .i64 (pre.length : Int) ∧ ck ≤ 64 ∧ ik ≤ 64 ∧ Hid (fmL i c = pre ++ fmL ik ck) ∧ Hid (OKP pre p) ∧ wr = w) (fun _ cv _ _ => (intOf cv).toNat)
  case atStart => exact ⟨[], i, c, rfl, rfl, rfl, hc, hi, Lib.hid rfl, Lib.hid ⟨Nat.zero_le _, fun j h => absurd h (by simp)⟩, rfl⟩
  case round =>
    obtain ⟨pre, ik, ck, rfl, rfl, rfl, hck, hik, HF, HO, rfl⟩ := hrel
    clear hc hi
    obtain ⟨k, hk⟩ : ∃ z9, pre.length = z9 := ⟨_, rfl⟩
    have HK := Lib.hid hk
    have HKP := Lib.hid (show k ≤ p.length by rw [← hk]; exact HO.out.1)
    rw [hk]
    clear hk
    by_cases g : 1 < ck
    rotate_left
    · have t1 : decide ((ck : Int) > 1) = false := decide_eq_false (by omega)
      have t2 : ¬ (1 : Int) < (ck : Int) := by omega
      have t3 : ¬ 1 < ck := g
      have HR := Lib.hid (show fmOK (fmL i c) p = decide (k = p.length) by rw [HF.out, fmL_end g, List.append_nil, HO.out.done, HK.out])
      by_cases q : k = p.length
      · have q1 : ((k : Int) == (p.length : Int)) = true := by simp; omega
        have q2 : (k == p.length) = true := by simpa using q
        have HR2 := Lib.hid (HR.out.trans (decide_eq_true q))
        clear q
        go_wp2
        go_ret
        exact ⟨ret_bool HR2.out.symm, rfl⟩
      · have q1 : ((k : Int) == (p.length : Int)) = false := by simp; omega
        have q2 : (k == p.length) = false := by simpa using q
        have HR2 := Lib.hid (HR.out.trans (decide_eq_false q))
        clear q
        go_wp2
        go_ret
        exact ⟨ret_bool HR2.out.symm, rfl⟩
    have HST := Lib.hid (fmL_step (i := ik) g)
    obtain ⟨f1, f2, f3, f4, f5, f6, f7, f8⟩ := fm_a g hck hik
    have HF9 := Lib.hid (fm_b hck)
    have HFH := Lib.hid (fm_h hik)
    have HM := Lib.hid (fm_m g hck)
    have HF6 := Lib.hid f6
    have HF7 := Lib.hid f7
    have HF8 := Lib.hid f8
    clear f6 f7 f8
    have t1 : decide ((ck : Int) > 1) = true := decide_eq_true (by omega)
    have t2 : (1 : Int) < (ck : Int) := by omega
    have HIK := Lib.hid hik
    have HCK := Lib.hid hck
    clear hik hck
    by_cases hkl : p.length ≤ k
    · have q1 : decide ((k : Int) ≥ (p.length : Int)) = true := decide_eq_true (by omega)
      have q2 : (p.length : Int) ≤ (k : Int) := by omega
      have HR := Lib.hid (show fmOK (fmL i c) p = false by rw [HF.out, HST.out]; exact ok_bad (.inl (by rw [HK.out]; exact hkl)))
      clear hkl
      go_wp2
      go_ret
      exact ⟨ret_bool HR.out.symm, rfl⟩
    have HKL := Lib.hid (show k < p.length by omega)
    have q1 : decide ((k : Int) ≥ (p.length : Int)) = false := decide_eq_false (by omega)
    have q2 : ¬ (p.length : Int) ≤ (k : Int) := by omega
    have q3 : (k : Int) < (p.length : Int) := by omega
    have g2 : p.length ≤ 1000 := HPL.out
    obtain ⟨b, off, rfl, x0, xz⟩ : ∃ b off, pa = some ⟨b, off, none⟩ ∧ wr.cell? ⟨b, off + k, none⟩ = some (.int .i64 (p.getD k 0)) ∧ b < wr.heap.size := by
      obtain ⟨a, c, e, -, hx⟩ := HP.out
      obtain ⟨b, off, ha, hx⟩ := hx (by intro q; rw [q] at q3; simp at q3; omega)
      have : pa = a := by simp at e; exact e.1
      have hy := hx k _ (getD_of HKL.out)
      exact ⟨b, off, this.trans ha, hy, World.block_lt_of_cell? _ _ hy⟩
    clear hkl
    have HBD := Lib.hid (fun (a : Bool) (hq : (decide (ik = ck - 1) && decide (ck % 2 = 1)) = a) (hx : chkB a (p.getD k 0) = false) => show fmOK (fmL i c) p = false by rw [HF.out, HST.out, hq]; exact ok_bad (.inr (by rw [HK.out]; exact hx)))
    have HGD := Lib.hid (fun (a : Bool) (hq : (decide (ik = ck - 1) && decide (ck % 2 = 1)) = a) (hx : chkB a (p.getD k 0) = true) => show fmL i c = (pre ++ [a]) ++ fmL (ik / 2) ((ck + 1) / 2) ∧ OKP (pre ++ [a]) p by
      refine ⟨by rw [HF.out, HST.out, hq, List.append_assoc]; rfl, HO.out.snoc (by rw [HK.out]; exact HKL.out) (by rw [HK.out]; exact hx)⟩)
    obtain ⟨x, hx⟩ : ∃ z9, p.getD k 0 = z9 := ⟨_, rfl⟩
    rw [hx] at x0 HBD HGD
    clear hx HF HO HST
    by_cases ho : ck % 2 = 1
    · by_cases hi : ik = ck - 1
      · have ha := And.intro hi ho
        clear hi ho
        have HA := Lib.hid (show (decide (ik = ck - 1) && decide (ck % 2 = 1)) = true by rw [decide_eq_true ha.1, decide_eq_true ha.2]; rfl)
        have a1 : (ck : Int).tmod 2 = 1 := by rw [f2, ha.2]; rfl
        have a2 : ((ik : Int) == (ck : Int) - 1) = true := by simp; omega
        have a3 : (ik : Int) = (ck : Int) - 1 := by omega
        clear f2 ha g
        by_cases hx : x = -1
        · subst hx
          have HG := Lib.hid (HGD.out true HA.out (by decide))
          clear a3
          go_wp2
          go_roundw
          case rel => exact ⟨pre ++ [true], ik / 2, (ck + 1) / 2, (by rw [HFH.out]), (by rw [HF9.out]), (by rw [List.length_append, HK.out]; go_num), HF7.out, HF8.out, Lib.hid HG.out.1, Lib.hid HG.out.2, trivial⟩
          case measure => exact HM.out
        · have HG := Lib.hid (HBD.out true HA.out (by unfold chkB; rw [decide_eq_false hx]; rfl))
          have b1 : (x != -1) = true := by simpa using hx
          have b2 : (x == -1) = false := by simpa using hx
          have b3 : ¬ x = -1 := hx
          clear hx a3
          go_wp2
          go_ret
          exact ⟨ret_bool HG.out.symm, rfl⟩
      · skip
        have HA := Lib.hid (show (decide (ik = ck - 1) && decide (ck % 2 = 1)) = false by rw [decide_eq_false hi]; rfl)
        have a1 : (ck : Int).tmod 2 = 1 := by rw [f2, ho]; rfl
        have a2 : ((ik : Int) == (ck : Int) - 1) = false := by simp; omega
        have a3 : ¬ (ik : Int) = (ck : Int) - 1 := by omega
        clear f2 hi ho g
        go_wp2_with fail
        refine (rdig_any x _).mono ?_
        rintro e w2 ⟨rfl, rfl⟩
        cases hx : inB 0 2147483646 x
        · have HG := Lib.hid (HBD.out false HA.out (by unfold chkB; rw [hx]; simp))
          clear hx
          go_wp2
          go_ret
          exact ⟨ret_bool HG.out.symm, rfl⟩
        · have HG := Lib.hid (HGD.out false HA.out (by unfold chkB; rw [hx, decide_eq_false (show ¬ x = -1 by have := inB_iff.1 hx; omega)]; rfl))
          clear hx
          go_wp2
          go_roundw
          case rel => exact ⟨pre ++ [false], ik / 2, (ck + 1) / 2, (by rw [HFH.out]), (by rw [HF9.out]), (by rw [List.length_append, HK.out]; go_num), HF7.out, HF8.out, Lib.hid HG.out.1, Lib.hid HG.out.2, trivial⟩
          case measure => exact HM.out
    · skip
      have HA := Lib.hid (show (decide (ik = ck - 1) && decide (ck % 2 = 1)) = false by rw [decide_eq_false ho, Bool.and_false])
      have a1 : (ck : Int).tmod 2 = 0 := by rw [f2, show ck % 2 = 0 by omega]; rfl
      clear f2 ho g
      go_wp2_with fail
      refine (rdig_any x _).mono ?_
      rintro e w2 ⟨rfl, rfl⟩
      cases hx : inB 0 2147483646 x
      · have HG := Lib.hid (HBD.out false HA.out (by unfold chkB; rw [hx]; simp))
        clear hx
        go_wp2
        go_ret
        exact ⟨ret_bool HG.out.symm, rfl⟩
      · have HG := Lib.hid (HGD.out false HA.out (by unfold chkB; rw [hx, decide_eq_false (show ¬ x = -1 by have := inB_iff.1 hx; omega)]; rfl))
        clear hx
        go_wp2
        go_roundw
        case rel => exact ⟨pre ++ [false], ik / 2, (ck + 1) / 2, (by rw [HFH.out]), (by rw [HF9.out]), (by rw [List.length_append, HK.out]; go_num), HF7.out, HF8.out, Lib.hid HG.out.1, Lib.hid HG.out.2, trivial⟩
        case measure => exact HM.out
end Go.Proofs.Yteodafhgfcbdpaa
