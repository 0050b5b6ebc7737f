/- Delivery, the reference: senders; 'has'. -/
import Derived.Test.YtkamkkjijjkfdaaDm
import Derived.Test.YtkamkkjijjkfdaaIv
import Derived.BigQuiet
import Derived.Deep.CutRange
namespace Go.Proofs.Ytkamkkjijjkfdaa
open Go.RowKit

set_option maxRecDepth 100000 in
set_option maxHeartbeats 8000000 in
theorem has_any (v : Value) (L : List Od) (q : Int) (w : World) (h : OdsAt w v L) :
    Calls Try.prog 23 #[v, .int .i64 q] w fun e w' => e = .returned (.bool (L.any fun x => x.a == q)) ∧ Below w.heap.size w w' := by
  have HL := Lib.hid h
  obtain ⟨sa, sc, rfl, -, hm, -⟩ := h
  unfold maxLen at hm
  go_enter Try.func23, Try.ntmps23
  go_wp2_with fail
  go_loopw [5] (fun iv wr => ∃ k : Nat, k ≤ L.length ∧ iv = .int .i64 k ∧ Hid (∀ j, j < k → (L.getD j zO).a ≠ q) ∧ Hid (Below w.heap.size w wr)) (fun iv _ => L.length - (intOf iv).toNat)
  case atStart => exact ⟨0, by omega, rfl, Lib.hid (fun j h => absurd h (by omega)), Lib.hid (Below.refl _ _)⟩
  case round =>
    obtain ⟨k, hk, rfl, HN, HW⟩ := hrel
    by_cases hlt : k < L.length
    · obtain ⟨a1, c1, hv1, -, -, hcs1⟩ := HL.out.step HW.out
      obtain ⟨rfl, rfl⟩ : sa = a1 ∧ sc = c1 := by simpa using hv1
      obtain ⟨b1, o1, rfl, hx1⟩ := hcs1 (by intro e; rw [e] at hlt; simp at hlt)
      obtain ⟨y0, -, -, -⟩ := hx1 k _ (od_get hlt)
      have yz : b1 < wr.heap.size := World.block_lt_of_cell? _ _ y0
      have t1 : (k : Int) < (L.length : Int) := by omega
      clear hcs1 hx1 hv1
      by_cases hq : (L.getD k zO).a = q
      · have HF := Lib.hid (show (L.any fun x => x.a == q) = true by
          rw [List.any_eq_true]; exact ⟨L.getD k zO, List.mem_of_getElem? (od_get hlt), by simpa using hq⟩)
        rw [hq] at y0
        clear hq HN
        go_wp2
        go_ret
        exact ⟨by rw [HF.out]; rfl, HW.out⟩
      · have HN2 := Lib.hid (show ∀ j, j < k + 1 → (L.getD j zO).a ≠ q from fun j h => by
          by_cases e : j = k
          · subst e; exact hq
          · exact HN.out j (by omega))
        obtain ⟨x, hx⟩ : ∃ x, (L.getD k zO).a = x := ⟨_, rfl⟩
        rw [hx] at y0 hq
        have e1 : decide (x = q) = false := decide_eq_false hq
        have e2 : (x == q) = false := beq_eq_false_iff_ne.2 hq
        clear HN hx
        go_wp2
        go_roundw
        case rel => exact ⟨k + 1, hlt, by go_num, HN2, HW⟩
        case measure => simp [intOf]; omega
    · have HF := Lib.hid (show (L.any fun x => x.a == q) = false by
        rw [List.any_eq_false]
        intro x hx
        obtain ⟨j, hj⟩ := List.getElem?_of_mem hx
        have hjl : j < L.length := (List.getElem?_eq_some_iff.1 hj).1
        have := HN.out j (by omega)
        rw [od_get hjl] at hj
        cases hj
        simpa using this)
      clear HN
      go_wp2
      go_ret
      exact ⟨by rw [HF.out]; rfl, HW.out⟩
theorem sn_low {nx : Int} {L : List Od} : ∀ k, (∀ j, j ≤ k → snA nx L j) → nx - 16 ≤ (L.getD k zO).a
  | 0, h => (h 0 (Nat.le_refl _)).2.1
  | k + 1, h => by
    have h1 := sn_low k (fun j hj => h j (by omega))
    have h2 := (h (k + 1) (Nat.le_refl _)).2.1
    have h3 : lst nx L (k + 1) = (L.getD k zO).a + 1 := rfl
    omega
set_option maxRecDepth 100000 in
set_option maxHeartbeats 8000000 in
theorem rsender_any (nx : Int) (sa : Option Addr) (sc : Nat) (L : List Od) (r : Bool) (hr : r = true ↔ SnP nx L) (w : World) (h : OdsAt w (.slice sa L.length sc) L) : Calls Try.prog 27 #[.agg #[.int .i64 nx, .slice sa L.length sc]] w fun e w' => e = .returned (.bool r) ∧ Below w.heap.size w w' := by
  have HB0 := Lib.hid (al w (.cells #[.int .i64 nx, .slice sa L.length sc] 24))
  have HC0 := Lib.hid (Cs.new w w.heap.size #[.int .i64 nx, .slice sa L.length sc] 24 rfl)
  have HL0 := Lib.hid (h.step HB0.out)
  have hm : L.length ≤ maxLen := by obtain ⟨a', c', e, -, hm, -⟩ := h; simpa using hm
  unfold maxLen at hm
  have HR := Lib.hid hr
  clear h hr
  have c0 := HC0.out.c 0 rfl
  have c1 := HC0.out.c 1 rfl
  have cz := HC0.out.2.2
  cases h1 : inr nx 0 1000001
  · have H1 := Lib.hid h1
    have HE := Lib.hid (show r = false by
      rw [Bool.eq_false_iff]
      intro e
      have := (HR.out.1 e).1
      rw [inr_no] at h1
      exact h1 this)
    clear h1
    go_enter Try.func27, Try.ntmps27
    go_wp2_with fail
    refine (rbt_i nx 0 1000001 _ H1.out _).mono ?_
    rintro e w' ⟨rfl, rfl⟩
    go_wp2
    go_ret
    exact ⟨by rw [HE.out]; rfl, HB0.out⟩
  have H1 := Lib.hid h1
  have HNX := Lib.hid (inr_iff.1 h1)
  have HW16 := Lib.hid (show IntKind.i64.wrap (nx - 16) = nx - 16 from IntWalk.i64_in _ (by have := HNX.out; omega))
  clear h1
  go_enter Try.func27, Try.ntmps27
  go_wp2_with fail
  refine (rbt_i nx 0 1000001 _ H1.out _).mono ?_
  rintro e w' ⟨rfl, rfl⟩
  go_wp2_with fail
  obtain ⟨W, hW⟩ : ∃ z, w.alloc (.cells #[.int .i64 nx, .slice sa L.length sc] 24) = z := ⟨_, rfl⟩
  rw [hW] at HC0 HB0 HL0 ⊢
  clear hW c0 c1 cz
  go_loopw [3] (fun iv wr => ∃ k : Nat, k ≤ L.length ∧ iv = .int .i64 k ∧ Hid (∀ j, j < k → snA nx L j) ∧ Hid (Below W.heap.size W wr)) (fun iv _ => L.length - (intOf iv).toNat)
  case atStart => exact ⟨0, by omega, rfl, Lib.hid (fun j h => absurd h (by omega)), Lib.hid (Below.refl _ _)⟩
  case round =>
    obtain ⟨k, hk, rfl, HN, HW⟩ := hrel
    have HC := Lib.hid (HC0.out.step HW.out)
    have c0 := HC.out.c 0 rfl
    have c1 := HC.out.c 1 rfl
    have cz := HC.out.2.2
    by_cases hlt : k < L.length
    rotate_left
    · have HE := Lib.hid (show r = true from HR.out.2 ⟨HNX.out, fun j hj => HN.out j (by omega)⟩)
      clear HN
      go_wp2
      go_ret
      exact ⟨by rw [HE.out]; rfl, keep2 HW.out HB0.out⟩
    have HL := Lib.hid (HL0.out.step HW.out)
    obtain ⟨a1, c1', hv1, -, -, hcs1⟩ := HL.out
    obtain ⟨rfl, rfl⟩ : sa = a1 ∧ sc = c1' := by simpa using hv1
    obtain ⟨b1, o1, rfl, hx1⟩ := hcs1 (by intro e; rw [e] at hlt; simp at hlt)
    obtain ⟨y0, y1, y2, y3⟩ := hx1 k _ (od_get hlt)
    have yz : b1 < wr.heap.size := World.block_lt_of_cell? _ _ y0
    have t1 : (k : Int) < (L.length : Int) := by omega
    have HX1 := Lib.hid hx1
    clear hcs1 hx1 hv1
    have HS := Lib.hid (show snA nx L k ↔ ((L.getD k zO).ok = true ∧ lst nx L k ≤ (L.getD k zO).a ∧ (L.getD k zO).a < nx) from Iff.rfl)
    obtain ⟨x, hx⟩ : ∃ x, L.getD k zO = x := ⟨_, rfl⟩
    rw [hx] at HS
    rw [hx] at y0 y1 y2 y3
    have HXK := Lib.hid hx
    clear hx
    obtain ⟨xa, xb, xc, xd⟩ := x
    simp only at y0 y1 y2 y3
    have HO := Lib.hid (Cs.new wr wr.heap.size #[.int .i64 xa, .int .i64 xb, .int .i64 xc, .int .i64 xd] 32 rfl)
    have HBo := Lib.hid (al wr (.cells #[.int .i64 xa, .int .i64 xb, .int .i64 xc, .int .i64 xd] 32))
    have HCq := Lib.hid (HC.out.step HBo.out)
    go_upto_region 7 with fail
    obtain ⟨wq, hwq⟩ : ∃ z, wr.alloc (.cells #[.int .i64 xa, .int .i64 xb, .int .i64 xc, .int .i64 xd] 32) = z := ⟨_, rfl⟩
    rw [hwq] at HO HBo HCq ⊢
    clear c0 c1 cz y0 y1 y2 y3 yz
    cases hok : Od.ok ⟨xa, xb, xc, xd⟩
    · have HOK := Lib.hid (show orB xa xb xc xd = false from hok)
      have HE := Lib.hid (show r = false by
        rw [Bool.eq_false_iff]
        intro e
        have h9 := HS.out.1 ((HR.out.1 e).2 k hlt)
        rw [hok] at h9; cases h9.1)
      clear HN HS hok
      obtain ⟨lit, hlit⟩ : ∃ lit : (Nat → Value) → Act, lit = fun vs => { tmps := List.toArray (Value.agg #[Value.int IntKind.i64 nx, Value.slice (some { block := b1, off := o1 }) L.length sc] :: Value.pointer (some { block := w.heap.size, off := 0 }) :: u2 :: Value.int IntKind.i64 (k : Int) :: Value.pointer (some { block := wr.heap.size, off := 0 }) :: Value.pointer (some { block := w.heap.size, off := 0 }) :: Value.int IntKind.i64 nx :: Value.bool true :: Value.bool false :: Value.int IntKind.i64 (k : Int) :: Value.pointer (some { block := w.heap.size, off := 1 }) :: Value.slice (some { block := b1, off := o1 }) L.length sc :: Value.int IntKind.i64 (L.length : Int) :: Value.bool true :: u14 :: u15 :: Value.pointer (some { block := w.heap.size, off := 1 }) :: Value.slice (some { block := b1, off := o1 }) L.length sc :: Value.int IntKind.i64 (k : Int) :: Value.pointer (some { block := b1, off := o1 + k * 4 }) :: Value.agg #[Value.int IntKind.i64 xa, Value.int IntKind.i64 xb, Value.int IntKind.i64 xc, Value.int IntKind.i64 xd] :: vs 0 :: vs 1 :: vs 2 :: vs 3 :: vs 4 :: vs 5 :: vs 6 :: vs 7 :: vs 8 :: vs 9 :: vs 10 :: vs 11 :: vs 12 :: vs 13 :: vs 14 :: vs 15 :: vs 16 :: vs 17 :: vs 18 :: vs 19 :: vs 20 :: vs 21 :: vs 22 :: vs 23 :: vs 24 :: vs 25 :: vs 26 :: vs 27 :: vs 28 :: vs 29 :: vs 30 :: vs 31 :: vs 32 :: vs 33 :: []), defers := [] } := ⟨_, rfl⟩
      have HLIT := Lib.hid hlit
      clear hlit
      obtain ⟨val, hval⟩ : ∃ val : List Value, val = [.agg #[.int .i64 xa, .int .i64 xb, .int .i64 xc, .int .i64 xd], .bool false, .bool true, .bool true, undef, undef, undef, undef, undef, .bool true, .bool true, undef, undef, undef, undef, undef, undef, .bool true, .bool true, undef, undef, undef, undef, undef, undef, undef, undef, undef, undef, undef, undef, undef, undef, .bool true] := ⟨_, rfl⟩
      have E0 := Lib.hid (show val.getD 0 undef = .agg #[.int .i64 xa, .int .i64 xb, .int .i64 xc, .int .i64 xd] by rw [hval]; rfl)
      have E1 := Lib.hid (show val.getD 1 undef = .bool false by rw [hval]; rfl)
      have E2 := Lib.hid (show val.getD 2 undef = .bool true by rw [hval]; rfl)
      have E3 := Lib.hid (show val.getD 3 undef = .bool true by rw [hval]; rfl)
      have E4 := Lib.hid (show val.getD 4 undef = undef by rw [hval]; rfl)
      have E5 := Lib.hid (show val.getD 5 undef = undef by rw [hval]; rfl)
      have E6 := Lib.hid (show val.getD 6 undef = undef by rw [hval]; rfl)
      have E7 := Lib.hid (show val.getD 7 undef = undef by rw [hval]; rfl)
      have E8 := Lib.hid (show val.getD 8 undef = undef by rw [hval]; rfl)
      have E9 := Lib.hid (show val.getD 9 undef = .bool true by rw [hval]; rfl)
      have E10 := Lib.hid (show val.getD 10 undef = .bool true by rw [hval]; rfl)
      have E11 := Lib.hid (show val.getD 11 undef = undef by rw [hval]; rfl)
      have E12 := Lib.hid (show val.getD 12 undef = undef by rw [hval]; rfl)
      have E13 := Lib.hid (show val.getD 13 undef = undef by rw [hval]; rfl)
      have E14 := Lib.hid (show val.getD 14 undef = undef by rw [hval]; rfl)
      have E15 := Lib.hid (show val.getD 15 undef = undef by rw [hval]; rfl)
      have E16 := Lib.hid (show val.getD 16 undef = undef by rw [hval]; rfl)
      have E17 := Lib.hid (show val.getD 17 undef = .bool true by rw [hval]; rfl)
      have E18 := Lib.hid (show val.getD 18 undef = .bool true by rw [hval]; rfl)
      have E19 := Lib.hid (show val.getD 19 undef = undef by rw [hval]; rfl)
      have E20 := Lib.hid (show val.getD 20 undef = undef by rw [hval]; rfl)
      have E21 := Lib.hid (show val.getD 21 undef = undef by rw [hval]; rfl)
      have E22 := Lib.hid (show val.getD 22 undef = undef by rw [hval]; rfl)
      have E23 := Lib.hid (show val.getD 23 undef = undef by rw [hval]; rfl)
      have E24 := Lib.hid (show val.getD 24 undef = undef by rw [hval]; rfl)
      have E25 := Lib.hid (show val.getD 25 undef = undef by rw [hval]; rfl)
      have E26 := Lib.hid (show val.getD 26 undef = undef by rw [hval]; rfl)
      have E27 := Lib.hid (show val.getD 27 undef = undef by rw [hval]; rfl)
      have E28 := Lib.hid (show val.getD 28 undef = undef by rw [hval]; rfl)
      have E29 := Lib.hid (show val.getD 29 undef = undef by rw [hval]; rfl)
      have E30 := Lib.hid (show val.getD 30 undef = undef by rw [hval]; rfl)
      have E31 := Lib.hid (show val.getD 31 undef = undef by rw [hval]; rfl)
      have E32 := Lib.hid (show val.getD 32 undef = undef by rw [hval]; rfl)
      have E33 := Lib.hid (show val.getD 33 undef = .bool true by rw [hval]; rfl)
      clear hval
      obtain ⟨G, hG0⟩ : ∃ G : Nat → Value → World → Prop, G = (fun i v w => (v = val.getD i undef)) := ⟨_, rfl⟩
      have HG := Lib.hid hG0
      clear hG0
      refine region_inv (RS lit wq G) (by kernel_rfl) (by decide +kernel) ?_ ?_ ?_
      · exact ⟨fun i => ([u21, u22, u23, u24, u25, u26, u27, u28, u29, u30, u31, u32, u33, u34, u35, u36, u37, u38, u39, u40, u41, u42, u43, u44, u45, u46, u47, u48, u49, u50, u51, u52, u53, u54] : List Value).getD i undef, (by rw [HLIT.out]; rfl), below_drew _ _, fun i h => by cases h⟩
      · refine ⟨?_, ?_, ?_, ?_, ?_, ?_, ?_, ?_, ?_, ?_, ?_, ?_, ?_, ?_, ?_, ?_, ?_, ?_, ?_, ?_, ?_, ?_, ?_, ?_, ?_, ?_, ?_, ?_, ?_, ?_, ?_, ?_, ?_, ?_, trivial⟩
        · intro bf ac wv hfb haf hJ K' hK
          obtain ⟨vs, rfl, hM, j4⟩ := hJ
          replace hK := Lib.hid hK
          replace hM := Lib.hid hM
          rw [HG.out] at j4
          replace j4 := Lib.hid j4
          clear haf hfb
          have xx0 := (HO.out.step hM.out).c 0 rfl
          have xx1 := (HO.out.step hM.out).c 1 rfl
          have xx2 := (HO.out.step hM.out).c 2 rfl
          have xx3 := (HO.out.step hM.out).c 3 rfl
          have xxz := (HO.out.step hM.out).2.2
          rw [HLIT.out]
          go_simp
          exact hK.out _ _ (RS.next (wv := wv) (vs := vs) 0 (x := .agg #[.int .i64 xa, .int .i64 xb, .int .i64 xc, .int .i64 xd]) (by rw [HLIT.out]; rfl) (by rw [HG.out]; exact j4.out) hM.out (by rw [HG.out]; exact fun _ _ h => h) (by rw [HG.out]; exact E0.out.symm))
        · intro bf ac wv hfb haf hJ K' hK
          obtain ⟨vs, rfl, hM, j4⟩ := hJ
          replace hK := Lib.hid hK
          replace hM := Lib.hid hM
          rw [HG.out] at j4
          simp [Region.binds] at haf
          have e0 := ((j4 0 (by simp [haf]))).trans E0.out
          replace j4 := Lib.hid j4
          clear haf hfb
          rw [HLIT.out]
          go_simp
          go_at_call 26
          refine (rorder_any xa xb xc xd false HOK.out _).mono ?_
          rintro e w4 ⟨rfl, b4⟩
          exact hK.out _ _ (RS.next (wv := wv) (vs := vs) 1 (x := .bool false) (by rw [HLIT.out]; simp only [upv, e0, Nat.reduceBEq, cond_true, cond_false]) (by rw [HG.out]; exact j4.out) (keep2 b4 hM.out) (by rw [HG.out]; exact fun _ _ h => h) (by rw [HG.out]; exact E1.out.symm))
        · intro bf ac wv hfb haf hJ K' hK
          obtain ⟨vs, rfl, hM, j4⟩ := hJ
          replace hK := Lib.hid hK
          replace hM := Lib.hid hM
          rw [HG.out] at j4
          simp [Region.binds] at haf
          have e1 := ((j4 1 (by simp [haf]))).trans E1.out
          replace j4 := Lib.hid j4
          clear haf hfb
          rw [HLIT.out]
          go_simp
          exact hK.out _ _ (RS.next (wv := wv) (vs := vs) 2 (x := .bool true) (by rw [HLIT.out]; simp only [upv, e1, Nat.reduceBEq, cond_true, cond_false]) (by rw [HG.out]; exact j4.out) hM.out (by rw [HG.out]; exact fun _ _ h => h) (by rw [HG.out]; exact E2.out.symm))
        · intro bf ac wv hfb haf hJ K' hK
          obtain ⟨vs, rfl, hM, j4⟩ := hJ
          replace hK := Lib.hid hK
          replace hM := Lib.hid hM
          rw [HG.out] at j4
          simp [Region.binds] at haf
          have e2 := ((j4 2 (by simp [haf]))).trans E2.out
          replace j4 := Lib.hid j4
          clear haf hfb
          rw [HLIT.out]
          go_simp
          exact hK.out _ _ (RS.next (wv := wv) (vs := vs) 3 (x := .bool true) (by rw [HLIT.out]; simp only [upv, e2, Nat.reduceBEq, cond_true, cond_false]) (by rw [HG.out]; exact j4.out) hM.out (by rw [HG.out]; exact fun _ _ h => h) (by rw [HG.out]; exact E3.out.symm))
        · intro bf ac wv hfb haf hJ K' hK
          obtain ⟨vs, rfl, hM, j4⟩ := hJ
          replace hK := Lib.hid hK
          replace hM := Lib.hid hM
          rw [HG.out] at j4
          simp [Region.binds] at haf
          have e3 := ((j4 3 (by simp [haf]))).trans E3.out
          replace j4 := Lib.hid j4
          clear haf hfb
          rw [HLIT.out]
          go_simp
          exact hK.out _ _ (RS.next (wv := wv) (vs := vs) 4 (x := undef) (by rw [HLIT.out]; simp only [upv, e3, Nat.reduceBEq, cond_true, cond_false]) (by rw [HG.out]; exact j4.out) hM.out (by rw [HG.out]; exact fun _ _ h => h) (by rw [HG.out]; exact E4.out.symm))
        · intro bf ac wv hfb haf hJ K' hK
          obtain ⟨vs, rfl, hM, j4⟩ := hJ
          replace hK := Lib.hid hK
          replace hM := Lib.hid hM
          rw [HG.out] at j4
          simp [Region.binds] at haf
          have e3 := ((j4 3 (by simp [haf]))).trans E3.out
          replace j4 := Lib.hid j4
          clear haf hfb
          rw [HLIT.out]
          go_simp
          exact hK.out _ _ (RS.next (wv := wv) (vs := vs) 5 (x := undef) (by rw [HLIT.out]; simp only [upv, e3, Nat.reduceBEq, cond_true, cond_false]) (by rw [HG.out]; exact j4.out) hM.out (by rw [HG.out]; exact fun _ _ h => h) (by rw [HG.out]; exact E5.out.symm))
        · intro bf ac wv hfb haf hJ K' hK
          obtain ⟨vs, rfl, hM, j4⟩ := hJ
          replace hK := Lib.hid hK
          replace hM := Lib.hid hM
          rw [HG.out] at j4
          simp [Region.binds] at haf
          have e3 := ((j4 3 (by simp [haf]))).trans E3.out
          replace j4 := Lib.hid j4
          clear haf hfb
          rw [HLIT.out]
          go_simp
          exact hK.out _ _ (RS.next (wv := wv) (vs := vs) 6 (x := undef) (by rw [HLIT.out]; simp only [upv, e3, Nat.reduceBEq, cond_true, cond_false]) (by rw [HG.out]; exact j4.out) hM.out (by rw [HG.out]; exact fun _ _ h => h) (by rw [HG.out]; exact E6.out.symm))
        · intro bf ac wv hfb haf hJ K' hK
          obtain ⟨vs, rfl, hM, j4⟩ := hJ
          replace hK := Lib.hid hK
          replace hM := Lib.hid hM
          rw [HG.out] at j4
          simp [Region.binds] at haf
          have e3 := ((j4 3 (by simp [haf]))).trans E3.out
          replace j4 := Lib.hid j4
          clear haf hfb
          rw [HLIT.out]
          go_simp
          exact hK.out _ _ (RS.next (wv := wv) (vs := vs) 7 (x := undef) (by rw [HLIT.out]; simp only [upv, e3, Nat.reduceBEq, cond_true, cond_false]) (by rw [HG.out]; exact j4.out) hM.out (by rw [HG.out]; exact fun _ _ h => h) (by rw [HG.out]; exact E7.out.symm))
        · intro bf ac wv hfb haf hJ K' hK
          obtain ⟨vs, rfl, hM, j4⟩ := hJ
          replace hK := Lib.hid hK
          replace hM := Lib.hid hM
          rw [HG.out] at j4
          simp [Region.binds] at haf
          have e3 := ((j4 3 (by simp [haf]))).trans E3.out
          replace j4 := Lib.hid j4
          clear haf hfb
          rw [HLIT.out]
          go_simp
          exact hK.out _ _ (RS.next (wv := wv) (vs := vs) 8 (x := undef) (by rw [HLIT.out]; simp only [upv, e3, Nat.reduceBEq, cond_true, cond_false]) (by rw [HG.out]; exact j4.out) hM.out (by rw [HG.out]; exact fun _ _ h => h) (by rw [HG.out]; exact E8.out.symm))
        · intro bf ac wv hfb haf hJ K' hK
          obtain ⟨vs, rfl, hM, j4⟩ := hJ
          replace hK := Lib.hid hK
          replace hM := Lib.hid hM
          rw [HG.out] at j4
          simp [Region.binds] at haf
          have e3 := ((j4 3 (by simp [haf]))).trans E3.out
          replace j4 := Lib.hid j4
          clear haf hfb
          rw [HLIT.out]
          go_simp
          exact hK.out _ _ (RS.next (wv := wv) (vs := vs) 9 (x := .bool true) (by rw [HLIT.out]; simp only [upv, e3, Nat.reduceBEq, cond_true, cond_false]) (by rw [HG.out]; exact j4.out) hM.out (by rw [HG.out]; exact fun _ _ h => h) (by rw [HG.out]; exact E9.out.symm))
        · intro bf ac wv hfb haf hJ K' hK
          obtain ⟨vs, rfl, hM, j4⟩ := hJ
          replace hK := Lib.hid hK
          replace hM := Lib.hid hM
          rw [HG.out] at j4
          simp [Region.binds] at haf
          have e9 := ((j4 9 (by simp [haf]))).trans E9.out
          replace j4 := Lib.hid j4
          clear haf hfb
          rw [HLIT.out]
          go_simp
          exact hK.out _ _ (RS.next (wv := wv) (vs := vs) 10 (x := .bool true) (by rw [HLIT.out]; simp only [upv, e9, Nat.reduceBEq, cond_true, cond_false]) (by rw [HG.out]; exact j4.out) hM.out (by rw [HG.out]; exact fun _ _ h => h) (by rw [HG.out]; exact E10.out.symm))
        · intro bf ac wv hfb haf hJ K' hK
          obtain ⟨vs, rfl, hM, j4⟩ := hJ
          replace hK := Lib.hid hK
          replace hM := Lib.hid hM
          rw [HG.out] at j4
          simp [Region.binds] at haf
          have e10 := ((j4 10 (by simp [haf]))).trans E10.out
          replace j4 := Lib.hid j4
          clear haf hfb
          rw [HLIT.out]
          go_simp
          exact hK.out _ _ (RS.next (wv := wv) (vs := vs) 11 (x := undef) (by rw [HLIT.out]; simp only [upv, e10, Nat.reduceBEq, cond_true, cond_false]) (by rw [HG.out]; exact j4.out) hM.out (by rw [HG.out]; exact fun _ _ h => h) (by rw [HG.out]; exact E11.out.symm))
        · intro bf ac wv hfb haf hJ K' hK
          obtain ⟨vs, rfl, hM, j4⟩ := hJ
          replace hK := Lib.hid hK
          replace hM := Lib.hid hM
          rw [HG.out] at j4
          simp [Region.binds] at haf
          have e10 := ((j4 10 (by simp [haf]))).trans E10.out
          replace j4 := Lib.hid j4
          clear haf hfb
          rw [HLIT.out]
          go_simp
          exact hK.out _ _ (RS.next (wv := wv) (vs := vs) 12 (x := undef) (by rw [HLIT.out]; simp only [upv, e10, Nat.reduceBEq, cond_true, cond_false]) (by rw [HG.out]; exact j4.out) hM.out (by rw [HG.out]; exact fun _ _ h => h) (by rw [HG.out]; exact E12.out.symm))
        · intro bf ac wv hfb haf hJ K' hK
          obtain ⟨vs, rfl, hM, j4⟩ := hJ
          replace hK := Lib.hid hK
          replace hM := Lib.hid hM
          rw [HG.out] at j4
          simp [Region.binds] at haf
          have e10 := ((j4 10 (by simp [haf]))).trans E10.out
          replace j4 := Lib.hid j4
          clear haf hfb
          rw [HLIT.out]
          go_simp
          exact hK.out _ _ (RS.next (wv := wv) (vs := vs) 13 (x := undef) (by rw [HLIT.out]; simp only [upv, e10, Nat.reduceBEq, cond_true, cond_false]) (by rw [HG.out]; exact j4.out) hM.out (by rw [HG.out]; exact fun _ _ h => h) (by rw [HG.out]; exact E13.out.symm))
        · intro bf ac wv hfb haf hJ K' hK
          obtain ⟨vs, rfl, hM, j4⟩ := hJ
          replace hK := Lib.hid hK
          replace hM := Lib.hid hM
          rw [HG.out] at j4
          simp [Region.binds] at haf
          have e10 := ((j4 10 (by simp [haf]))).trans E10.out
          replace j4 := Lib.hid j4
          clear haf hfb
          rw [HLIT.out]
          go_simp
          exact hK.out _ _ (RS.next (wv := wv) (vs := vs) 14 (x := undef) (by rw [HLIT.out]; simp only [upv, e10, Nat.reduceBEq, cond_true, cond_false]) (by rw [HG.out]; exact j4.out) hM.out (by rw [HG.out]; exact fun _ _ h => h) (by rw [HG.out]; exact E14.out.symm))
        · intro bf ac wv hfb haf hJ K' hK
          obtain ⟨vs, rfl, hM, j4⟩ := hJ
          replace hK := Lib.hid hK
          replace hM := Lib.hid hM
          rw [HG.out] at j4
          simp [Region.binds] at haf
          have e10 := ((j4 10 (by simp [haf]))).trans E10.out
          replace j4 := Lib.hid j4
          clear haf hfb
          rw [HLIT.out]
          go_simp
          exact hK.out _ _ (RS.next (wv := wv) (vs := vs) 15 (x := undef) (by rw [HLIT.out]; simp only [upv, e10, Nat.reduceBEq, cond_true, cond_false]) (by rw [HG.out]; exact j4.out) hM.out (by rw [HG.out]; exact fun _ _ h => h) (by rw [HG.out]; exact E15.out.symm))
        · intro bf ac wv hfb haf hJ K' hK
          obtain ⟨vs, rfl, hM, j4⟩ := hJ
          replace hK := Lib.hid hK
          replace hM := Lib.hid hM
          rw [HG.out] at j4
          simp [Region.binds] at haf
          have e10 := ((j4 10 (by simp [haf]))).trans E10.out
          replace j4 := Lib.hid j4
          clear haf hfb
          rw [HLIT.out]
          go_simp
          exact hK.out _ _ (RS.next (wv := wv) (vs := vs) 16 (x := undef) (by rw [HLIT.out]; simp only [upv, e10, Nat.reduceBEq, cond_true, cond_false]) (by rw [HG.out]; exact j4.out) hM.out (by rw [HG.out]; exact fun _ _ h => h) (by rw [HG.out]; exact E16.out.symm))
        · intro bf ac wv hfb haf hJ K' hK
          obtain ⟨vs, rfl, hM, j4⟩ := hJ
          replace hK := Lib.hid hK
          replace hM := Lib.hid hM
          rw [HG.out] at j4
          simp [Region.binds] at haf
          have e10 := ((j4 10 (by simp [haf]))).trans E10.out
          replace j4 := Lib.hid j4
          clear haf hfb
          rw [HLIT.out]
          go_simp
          exact hK.out _ _ (RS.next (wv := wv) (vs := vs) 17 (x := .bool true) (by rw [HLIT.out]; simp only [upv, e10, Nat.reduceBEq, cond_true, cond_false]) (by rw [HG.out]; exact j4.out) hM.out (by rw [HG.out]; exact fun _ _ h => h) (by rw [HG.out]; exact E17.out.symm))
        · intro bf ac wv hfb haf hJ K' hK
          obtain ⟨vs, rfl, hM, j4⟩ := hJ
          replace hK := Lib.hid hK
          replace hM := Lib.hid hM
          rw [HG.out] at j4
          simp [Region.binds] at haf
          have e17 := ((j4 17 (by simp [haf]))).trans E17.out
          replace j4 := Lib.hid j4
          clear haf hfb
          rw [HLIT.out]
          go_simp
          exact hK.out _ _ (RS.next (wv := wv) (vs := vs) 18 (x := .bool true) (by rw [HLIT.out]; simp only [upv, e17, Nat.reduceBEq, cond_true, cond_false]) (by rw [HG.out]; exact j4.out) hM.out (by rw [HG.out]; exact fun _ _ h => h) (by rw [HG.out]; exact E18.out.symm))
        · intro bf ac wv hfb haf hJ K' hK
          obtain ⟨vs, rfl, hM, j4⟩ := hJ
          replace hK := Lib.hid hK
          replace hM := Lib.hid hM
          rw [HG.out] at j4
          simp [Region.binds] at haf
          have e18 := ((j4 18 (by simp [haf]))).trans E18.out
          replace j4 := Lib.hid j4
          clear haf hfb
          rw [HLIT.out]
          go_simp
          exact hK.out _ _ (RS.next (wv := wv) (vs := vs) 19 (x := undef) (by rw [HLIT.out]; simp only [upv, e18, Nat.reduceBEq, cond_true, cond_false]) (by rw [HG.out]; exact j4.out) hM.out (by rw [HG.out]; exact fun _ _ h => h) (by rw [HG.out]; exact E19.out.symm))
        · intro bf ac wv hfb haf hJ K' hK
          obtain ⟨vs, rfl, hM, j4⟩ := hJ
          replace hK := Lib.hid hK
          replace hM := Lib.hid hM
          rw [HG.out] at j4
          simp [Region.binds] at haf
          have e18 := ((j4 18 (by simp [haf]))).trans E18.out
          replace j4 := Lib.hid j4
          clear haf hfb
          rw [HLIT.out]
          go_simp
          exact hK.out _ _ (RS.next (wv := wv) (vs := vs) 20 (x := undef) (by rw [HLIT.out]; simp only [upv, e18, Nat.reduceBEq, cond_true, cond_false]) (by rw [HG.out]; exact j4.out) hM.out (by rw [HG.out]; exact fun _ _ h => h) (by rw [HG.out]; exact E20.out.symm))
        · intro bf ac wv hfb haf hJ K' hK
          obtain ⟨vs, rfl, hM, j4⟩ := hJ
          replace hK := Lib.hid hK
          replace hM := Lib.hid hM
          rw [HG.out] at j4
          simp [Region.binds] at haf
          have e18 := ((j4 18 (by simp [haf]))).trans E18.out
          replace j4 := Lib.hid j4
          clear haf hfb
          rw [HLIT.out]
          go_simp
          exact hK.out _ _ (RS.next (wv := wv) (vs := vs) 21 (x := undef) (by rw [HLIT.out]; simp only [upv, e18, Nat.reduceBEq, cond_true, cond_false]) (by rw [HG.out]; exact j4.out) hM.out (by rw [HG.out]; exact fun _ _ h => h) (by rw [HG.out]; exact E21.out.symm))
        · intro bf ac wv hfb haf hJ K' hK
          obtain ⟨vs, rfl, hM, j4⟩ := hJ
          replace hK := Lib.hid hK
          replace hM := Lib.hid hM
          rw [HG.out] at j4
          simp [Region.binds] at haf
          have e21 := ((j4 21 (by simp [haf]))).trans E21.out
          replace j4 := Lib.hid j4
          clear haf hfb
          rw [HLIT.out]
          go_simp
          exact hK.out _ _ (RS.next (wv := wv) (vs := vs) 22 (x := undef) (by rw [HLIT.out]; simp only [upv, e21, Nat.reduceBEq, cond_true, cond_false]) (by rw [HG.out]; exact j4.out) hM.out (by rw [HG.out]; exact fun _ _ h => h) (by rw [HG.out]; exact E22.out.symm))
        · intro bf ac wv hfb haf hJ K' hK
          obtain ⟨vs, rfl, hM, j4⟩ := hJ
          replace hK := Lib.hid hK
          replace hM := Lib.hid hM
          rw [HG.out] at j4
          simp [Region.binds] at haf
          have e21 := ((j4 21 (by simp [haf]))).trans E21.out
          replace j4 := Lib.hid j4
          clear haf hfb
          rw [HLIT.out]
          go_simp
          exact hK.out _ _ (RS.next (wv := wv) (vs := vs) 23 (x := undef) (by rw [HLIT.out]; simp only [upv, e21, Nat.reduceBEq, cond_true, cond_false]) (by rw [HG.out]; exact j4.out) hM.out (by rw [HG.out]; exact fun _ _ h => h) (by rw [HG.out]; exact E23.out.symm))
        · intro bf ac wv hfb haf hJ K' hK
          obtain ⟨vs, rfl, hM, j4⟩ := hJ
          replace hK := Lib.hid hK
          replace hM := Lib.hid hM
          rw [HG.out] at j4
          simp [Region.binds] at haf
          have e21 := ((j4 21 (by simp [haf]))).trans E21.out
          replace j4 := Lib.hid j4
          clear haf hfb
          rw [HLIT.out]
          go_simp
          exact hK.out _ _ (RS.next (wv := wv) (vs := vs) 24 (x := undef) (by rw [HLIT.out]; simp only [upv, e21, Nat.reduceBEq, cond_true, cond_false]) (by rw [HG.out]; exact j4.out) hM.out (by rw [HG.out]; exact fun _ _ h => h) (by rw [HG.out]; exact E24.out.symm))
        · intro bf ac wv hfb haf hJ K' hK
          obtain ⟨vs, rfl, hM, j4⟩ := hJ
          replace hK := Lib.hid hK
          replace hM := Lib.hid hM
          rw [HG.out] at j4
          simp [Region.binds] at haf
          have e21 := ((j4 21 (by simp [haf]))).trans E21.out
          replace j4 := Lib.hid j4
          clear haf hfb
          rw [HLIT.out]
          go_simp
          exact hK.out _ _ (RS.next (wv := wv) (vs := vs) 25 (x := undef) (by rw [HLIT.out]; simp only [upv, e21, Nat.reduceBEq, cond_true, cond_false]) (by rw [HG.out]; exact j4.out) hM.out (by rw [HG.out]; exact fun _ _ h => h) (by rw [HG.out]; exact E25.out.symm))
        · intro bf ac wv hfb haf hJ K' hK
          obtain ⟨vs, rfl, hM, j4⟩ := hJ
          replace hK := Lib.hid hK
          replace hM := Lib.hid hM
          rw [HG.out] at j4
          simp [Region.binds] at haf
          have e21 := ((j4 21 (by simp [haf]))).trans E21.out
          replace j4 := Lib.hid j4
          clear haf hfb
          rw [HLIT.out]
          go_simp
          exact hK.out _ _ (RS.next (wv := wv) (vs := vs) 26 (x := undef) (by rw [HLIT.out]; simp only [upv, e21, Nat.reduceBEq, cond_true, cond_false]) (by rw [HG.out]; exact j4.out) hM.out (by rw [HG.out]; exact fun _ _ h => h) (by rw [HG.out]; exact E26.out.symm))
        · intro bf ac wv hfb haf hJ K' hK
          obtain ⟨vs, rfl, hM, j4⟩ := hJ
          replace hK := Lib.hid hK
          replace hM := Lib.hid hM
          rw [HG.out] at j4
          simp [Region.binds] at haf
          have e21 := ((j4 21 (by simp [haf]))).trans E21.out
          replace j4 := Lib.hid j4
          clear haf hfb
          rw [HLIT.out]
          go_simp
          exact hK.out _ _ (RS.next (wv := wv) (vs := vs) 27 (x := undef) (by rw [HLIT.out]; simp only [upv, e21, Nat.reduceBEq, cond_true, cond_false]) (by rw [HG.out]; exact j4.out) hM.out (by rw [HG.out]; exact fun _ _ h => h) (by rw [HG.out]; exact E27.out.symm))
        · intro bf ac wv hfb haf hJ K' hK
          obtain ⟨vs, rfl, hM, j4⟩ := hJ
          replace hK := Lib.hid hK
          replace hM := Lib.hid hM
          rw [HG.out] at j4
          simp [Region.binds] at haf
          have e21 := ((j4 21 (by simp [haf]))).trans E21.out
          replace j4 := Lib.hid j4
          clear haf hfb
          rw [HLIT.out]
          go_simp
          exact hK.out _ _ (RS.next (wv := wv) (vs := vs) 28 (x := undef) (by rw [HLIT.out]; simp only [upv, e21, Nat.reduceBEq, cond_true, cond_false]) (by rw [HG.out]; exact j4.out) hM.out (by rw [HG.out]; exact fun _ _ h => h) (by rw [HG.out]; exact E28.out.symm))
        · intro bf ac wv hfb haf hJ K' hK
          obtain ⟨vs, rfl, hM, j4⟩ := hJ
          replace hK := Lib.hid hK
          replace hM := Lib.hid hM
          rw [HG.out] at j4
          simp [Region.binds] at haf
          have e21 := ((j4 21 (by simp [haf]))).trans E21.out
          replace j4 := Lib.hid j4
          clear haf hfb
          rw [HLIT.out]
          go_simp
          exact hK.out _ _ (RS.next (wv := wv) (vs := vs) 29 (x := undef) (by rw [HLIT.out]; simp only [upv, e21, Nat.reduceBEq, cond_true, cond_false]) (by rw [HG.out]; exact j4.out) hM.out (by rw [HG.out]; exact fun _ _ h => h) (by rw [HG.out]; exact E29.out.symm))
        · intro bf ac wv hfb haf hJ K' hK
          obtain ⟨vs, rfl, hM, j4⟩ := hJ
          replace hK := Lib.hid hK
          replace hM := Lib.hid hM
          rw [HG.out] at j4
          simp [Region.binds] at haf
          have e21 := ((j4 21 (by simp [haf]))).trans E21.out
          replace j4 := Lib.hid j4
          clear haf hfb
          rw [HLIT.out]
          go_simp
          exact hK.out _ _ (RS.next (wv := wv) (vs := vs) 30 (x := undef) (by rw [HLIT.out]; simp only [upv, e21, Nat.reduceBEq, cond_true, cond_false]) (by rw [HG.out]; exact j4.out) hM.out (by rw [HG.out]; exact fun _ _ h => h) (by rw [HG.out]; exact E30.out.symm))
        · intro bf ac wv hfb haf hJ K' hK
          obtain ⟨vs, rfl, hM, j4⟩ := hJ
          replace hK := Lib.hid hK
          replace hM := Lib.hid hM
          rw [HG.out] at j4
          simp [Region.binds] at haf
          have e21 := ((j4 21 (by simp [haf]))).trans E21.out
          replace j4 := Lib.hid j4
          clear haf hfb
          rw [HLIT.out]
          go_simp
          exact hK.out _ _ (RS.next (wv := wv) (vs := vs) 31 (x := undef) (by rw [HLIT.out]; simp only [upv, e21, Nat.reduceBEq, cond_true, cond_false]) (by rw [HG.out]; exact j4.out) hM.out (by rw [HG.out]; exact fun _ _ h => h) (by rw [HG.out]; exact E31.out.symm))
        · intro bf ac wv hfb haf hJ K' hK
          obtain ⟨vs, rfl, hM, j4⟩ := hJ
          replace hK := Lib.hid hK
          replace hM := Lib.hid hM
          rw [HG.out] at j4
          simp [Region.binds] at haf
          have e18 := ((j4 18 (by simp [haf]))).trans E18.out
          replace j4 := Lib.hid j4
          clear haf hfb
          rw [HLIT.out]
          go_simp
          exact hK.out _ _ (RS.next (wv := wv) (vs := vs) 32 (x := undef) (by rw [HLIT.out]; simp only [upv, e18, Nat.reduceBEq, cond_true, cond_false]) (by rw [HG.out]; exact j4.out) hM.out (by rw [HG.out]; exact fun _ _ h => h) (by rw [HG.out]; exact E32.out.symm))
        · intro bf ac wv hfb haf hJ K' hK
          obtain ⟨vs, rfl, hM, j4⟩ := hJ
          replace hK := Lib.hid hK
          replace hM := Lib.hid hM
          rw [HG.out] at j4
          simp [Region.binds] at haf
          have e18 := ((j4 18 (by simp [haf]))).trans E18.out
          replace j4 := Lib.hid j4
          clear haf hfb
          rw [HLIT.out]
          go_simp
          exact hK.out _ _ (RS.next (wv := wv) (vs := vs) 33 (x := .bool true) (by rw [HLIT.out]; simp only [upv, e18, Nat.reduceBEq, cond_true, cond_false]) (by rw [HG.out]; exact j4.out) hM.out (by rw [HG.out]; exact fun _ _ h => h) (by rw [HG.out]; exact E33.out.symm))
      · intro bf ac wv hall hJ
        obtain ⟨vs, rfl, hM, j4⟩ := hJ
        rw [HG.out] at j4
        have hlast := ((j4 33 (hall 33 (by decide)))).trans E33.out
        clear j4 hall
        rw [HLIT.out]
        dsimp only
        rw [hlast]
        clear hlast
        have HB9 := Lib.hid (HW.out.trans ((keep2 hM HBo.out).mono HW.out.size))
        go_wp2
        go_ret
        exact ⟨by rw [HE.out]; rfl, keep2 HB9.out HB0.out⟩
    have HOK := Lib.hid (show orB xa xb xc xd = true from hok)
    by_cases q1 : nx ≤ xa
    · have d1 : decide (xa ≥ nx) = true := by simpa using q1
      have d2 : decide (nx ≤ xa) = true := decide_eq_true q1
      have HE := Lib.hid (show r = false by
        rw [Bool.eq_false_iff]
        intro e
        have h9 := HS.out.1 ((HR.out.1 e).2 k hlt)
        have h10 : xa < nx := h9.2.2; omega)
      clear HN HS hok
      obtain ⟨lit, hlit⟩ : ∃ lit : (Nat → Value) → Act, lit = fun vs => { tmps := List.toArray (Value.agg #[Value.int IntKind.i64 nx, Value.slice (some { block := b1, off := o1 }) L.length sc] :: Value.pointer (some { block := w.heap.size, off := 0 }) :: u2 :: Value.int IntKind.i64 (k : Int) :: Value.pointer (some { block := wr.heap.size, off := 0 }) :: Value.pointer (some { block := w.heap.size, off := 0 }) :: Value.int IntKind.i64 nx :: Value.bool true :: Value.bool false :: Value.int IntKind.i64 (k : Int) :: Value.pointer (some { block := w.heap.size, off := 1 }) :: Value.slice (some { block := b1, off := o1 }) L.length sc :: Value.int IntKind.i64 (L.length : Int) :: Value.bool true :: u14 :: u15 :: Value.pointer (some { block := w.heap.size, off := 1 }) :: Value.slice (some { block := b1, off := o1 }) L.length sc :: Value.int IntKind.i64 (k : Int) :: Value.pointer (some { block := b1, off := o1 + k * 4 }) :: Value.agg #[Value.int IntKind.i64 xa, Value.int IntKind.i64 xb, Value.int IntKind.i64 xc, Value.int IntKind.i64 xd] :: vs 0 :: vs 1 :: vs 2 :: vs 3 :: vs 4 :: vs 5 :: vs 6 :: vs 7 :: vs 8 :: vs 9 :: vs 10 :: vs 11 :: vs 12 :: vs 13 :: vs 14 :: vs 15 :: vs 16 :: vs 17 :: vs 18 :: vs 19 :: vs 20 :: vs 21 :: vs 22 :: vs 23 :: vs 24 :: vs 25 :: vs 26 :: vs 27 :: vs 28 :: vs 29 :: vs 30 :: vs 31 :: vs 32 :: vs 33 :: []), defers := [] } := ⟨_, rfl⟩
      have HLIT := Lib.hid hlit
      clear hlit
      obtain ⟨val, hval⟩ : ∃ val : List Value, val = [.agg #[.int .i64 xa, .int .i64 xb, .int .i64 xc, .int .i64 xd], .bool true, .bool false, .bool false, .pointer (some ⟨wr.heap.size, 0, none⟩), .int .i64 xa, .pointer (some ⟨w.heap.size, 0, none⟩), .int .i64 nx, .bool true, .bool true, .bool true, undef, undef, undef, undef, undef, undef, .bool true, .bool true, undef, undef, undef, undef, undef, undef, undef, undef, undef, undef, undef, undef, undef, undef, .bool true] := ⟨_, rfl⟩
      have E0 := Lib.hid (show val.getD 0 undef = .agg #[.int .i64 xa, .int .i64 xb, .int .i64 xc, .int .i64 xd] by rw [hval]; rfl)
      have E1 := Lib.hid (show val.getD 1 undef = .bool true by rw [hval]; rfl)
      have E2 := Lib.hid (show val.getD 2 undef = .bool false by rw [hval]; rfl)
      have E3 := Lib.hid (show val.getD 3 undef = .bool false by rw [hval]; rfl)
      have E4 := Lib.hid (show val.getD 4 undef = .pointer (some ⟨wr.heap.size, 0, none⟩) by rw [hval]; rfl)
      have E5 := Lib.hid (show val.getD 5 undef = .int .i64 xa by rw [hval]; rfl)
      have E6 := Lib.hid (show val.getD 6 undef = .pointer (some ⟨w.heap.size, 0, none⟩) by rw [hval]; rfl)
      have E7 := Lib.hid (show val.getD 7 undef = .int .i64 nx by rw [hval]; rfl)
      have E8 := Lib.hid (show val.getD 8 undef = .bool true by rw [hval]; rfl)
      have E9 := Lib.hid (show val.getD 9 undef = .bool true by rw [hval]; rfl)
      have E10 := Lib.hid (show val.getD 10 undef = .bool true by rw [hval]; rfl)
      have E11 := Lib.hid (show val.getD 11 undef = undef by rw [hval]; rfl)
      have E12 := Lib.hid (show val.getD 12 undef = undef by rw [hval]; rfl)
      have E13 := Lib.hid (show val.getD 13 undef = undef by rw [hval]; rfl)
      have E14 := Lib.hid (show val.getD 14 undef = undef by rw [hval]; rfl)
      have E15 := Lib.hid (show val.getD 15 undef = undef by rw [hval]; rfl)
      have E16 := Lib.hid (show val.getD 16 undef = undef by rw [hval]; rfl)
      have E17 := Lib.hid (show val.getD 17 undef = .bool true by rw [hval]; rfl)
      have E18 := Lib.hid (show val.getD 18 undef = .bool true by rw [hval]; rfl)
      have E19 := Lib.hid (show val.getD 19 undef = undef by rw [hval]; rfl)
      have E20 := Lib.hid (show val.getD 20 undef = undef by rw [hval]; rfl)
      have E21 := Lib.hid (show val.getD 21 undef = undef by rw [hval]; rfl)
      have E22 := Lib.hid (show val.getD 22 undef = undef by rw [hval]; rfl)
      have E23 := Lib.hid (show val.getD 23 undef = undef by rw [hval]; rfl)
      have E24 := Lib.hid (show val.getD 24 undef = undef by rw [hval]; rfl)
      have E25 := Lib.hid (show val.getD 25 undef = undef by rw [hval]; rfl)
      have E26 := Lib.hid (show val.getD 26 undef = undef by rw [hval]; rfl)
      have E27 := Lib.hid (show val.getD 27 undef = undef by rw [hval]; rfl)
      have E28 := Lib.hid (show val.getD 28 undef = undef by rw [hval]; rfl)
      have E29 := Lib.hid (show val.getD 29 undef = undef by rw [hval]; rfl)
      have E30 := Lib.hid (show val.getD 30 undef = undef by rw [hval]; rfl)
      have E31 := Lib.hid (show val.getD 31 undef = undef by rw [hval]; rfl)
      have E32 := Lib.hid (show val.getD 32 undef = undef by rw [hval]; rfl)
      have E33 := Lib.hid (show val.getD 33 undef = .bool true by rw [hval]; rfl)
      clear hval
      obtain ⟨G, hG0⟩ : ∃ G : Nat → Value → World → Prop, G = (fun i v w => (v = val.getD i undef)) := ⟨_, rfl⟩
      have HG := Lib.hid hG0
      clear hG0
      refine region_inv (RS lit wq G) (by kernel_rfl) (by decide +kernel) ?_ ?_ ?_
      · exact ⟨fun i => ([u21, u22, u23, u24, u25, u26, u27, u28, u29, u30, u31, u32, u33, u34, u35, u36, u37, u38, u39, u40, u41, u42, u43, u44, u45, u46, u47, u48, u49, u50, u51, u52, u53, u54] : List Value).getD i undef, (by rw [HLIT.out]; rfl), below_drew _ _, fun i h => by cases h⟩
      · refine ⟨?_, ?_, ?_, ?_, ?_, ?_, ?_, ?_, ?_, ?_, ?_, ?_, ?_, ?_, ?_, ?_, ?_, ?_, ?_, ?_, ?_, ?_, ?_, ?_, ?_, ?_, ?_, ?_, ?_, ?_, ?_, ?_, ?_, ?_, trivial⟩
        · intro bf ac wv hfb haf hJ K' hK
          obtain ⟨vs, rfl, hM, j4⟩ := hJ
          replace hK := Lib.hid hK
          replace hM := Lib.hid hM
          rw [HG.out] at j4
          replace j4 := Lib.hid j4
          clear haf hfb
          have xx0 := (HO.out.step hM.out).c 0 rfl
          have xx1 := (HO.out.step hM.out).c 1 rfl
          have xx2 := (HO.out.step hM.out).c 2 rfl
          have xx3 := (HO.out.step hM.out).c 3 rfl
          have xxz := (HO.out.step hM.out).2.2
          rw [HLIT.out]
          go_simp
          exact hK.out _ _ (RS.next (wv := wv) (vs := vs) 0 (x := .agg #[.int .i64 xa, .int .i64 xb, .int .i64 xc, .int .i64 xd]) (by rw [HLIT.out]; rfl) (by rw [HG.out]; exact j4.out) hM.out (by rw [HG.out]; exact fun _ _ h => h) (by rw [HG.out]; exact E0.out.symm))
        · intro bf ac wv hfb haf hJ K' hK
          obtain ⟨vs, rfl, hM, j4⟩ := hJ
          replace hK := Lib.hid hK
          replace hM := Lib.hid hM
          rw [HG.out] at j4
          simp [Region.binds] at haf
          have e0 := ((j4 0 (by simp [haf]))).trans E0.out
          replace j4 := Lib.hid j4
          clear haf hfb
          rw [HLIT.out]
          go_simp
          go_at_call 26
          refine (rorder_any xa xb xc xd true HOK.out _).mono ?_
          rintro e w4 ⟨rfl, b4⟩
          exact hK.out _ _ (RS.next (wv := wv) (vs := vs) 1 (x := .bool true) (by rw [HLIT.out]; simp only [upv, e0, Nat.reduceBEq, cond_true, cond_false]) (by rw [HG.out]; exact j4.out) (keep2 b4 hM.out) (by rw [HG.out]; exact fun _ _ h => h) (by rw [HG.out]; exact E1.out.symm))
        · intro bf ac wv hfb haf hJ K' hK
          obtain ⟨vs, rfl, hM, j4⟩ := hJ
          replace hK := Lib.hid hK
          replace hM := Lib.hid hM
          rw [HG.out] at j4
          simp [Region.binds] at haf
          have e1 := ((j4 1 (by simp [haf]))).trans E1.out
          replace j4 := Lib.hid j4
          clear haf hfb
          rw [HLIT.out]
          go_simp
          exact hK.out _ _ (RS.next (wv := wv) (vs := vs) 2 (x := .bool false) (by rw [HLIT.out]; simp only [upv, e1, Nat.reduceBEq, cond_true, cond_false]) (by rw [HG.out]; exact j4.out) hM.out (by rw [HG.out]; exact fun _ _ h => h) (by rw [HG.out]; exact E2.out.symm))
        · intro bf ac wv hfb haf hJ K' hK
          obtain ⟨vs, rfl, hM, j4⟩ := hJ
          replace hK := Lib.hid hK
          replace hM := Lib.hid hM
          rw [HG.out] at j4
          simp [Region.binds] at haf
          have e2 := ((j4 2 (by simp [haf]))).trans E2.out
          replace j4 := Lib.hid j4
          clear haf hfb
          rw [HLIT.out]
          go_simp
          exact hK.out _ _ (RS.next (wv := wv) (vs := vs) 3 (x := .bool false) (by rw [HLIT.out]; simp only [upv, e2, Nat.reduceBEq, cond_true, cond_false]) (by rw [HG.out]; exact j4.out) hM.out (by rw [HG.out]; exact fun _ _ h => h) (by rw [HG.out]; exact E3.out.symm))
        · intro bf ac wv hfb haf hJ K' hK
          obtain ⟨vs, rfl, hM, j4⟩ := hJ
          replace hK := Lib.hid hK
          replace hM := Lib.hid hM
          rw [HG.out] at j4
          simp [Region.binds] at haf
          have e3 := ((j4 3 (by simp [haf]))).trans E3.out
          replace j4 := Lib.hid j4
          clear haf hfb
          rw [HLIT.out]
          go_simp
          exact hK.out _ _ (RS.next (wv := wv) (vs := vs) 4 (x := .pointer (some ⟨wr.heap.size, 0, none⟩)) (by rw [HLIT.out]; simp only [upv, e3, Nat.reduceBEq, cond_true, cond_false]) (by rw [HG.out]; exact j4.out) hM.out (by rw [HG.out]; exact fun _ _ h => h) (by rw [HG.out]; exact E4.out.symm))
        · intro bf ac wv hfb haf hJ K' hK
          obtain ⟨vs, rfl, hM, j4⟩ := hJ
          replace hK := Lib.hid hK
          replace hM := Lib.hid hM
          rw [HG.out] at j4
          simp [Region.binds] at haf
          have e3 := ((j4 3 (by simp [haf]))).trans E3.out
          have e4 := ((j4 4 (by simp [haf]))).trans E4.out
          replace j4 := Lib.hid j4
          clear haf hfb
          have xx0 := (HO.out.step hM.out).c 0 rfl
          have xxz := (HO.out.step hM.out).2.2
          rw [HLIT.out]
          go_simp
          exact hK.out _ _ (RS.next (wv := wv) (vs := vs) 5 (x := .int .i64 xa) (by rw [HLIT.out]; simp only [upv, e3, e4, Nat.reduceBEq, cond_true, cond_false]) (by rw [HG.out]; exact j4.out) hM.out (by rw [HG.out]; exact fun _ _ h => h) (by rw [HG.out]; exact E5.out.symm))
        · intro bf ac wv hfb haf hJ K' hK
          obtain ⟨vs, rfl, hM, j4⟩ := hJ
          replace hK := Lib.hid hK
          replace hM := Lib.hid hM
          rw [HG.out] at j4
          simp [Region.binds] at haf
          have e3 := ((j4 3 (by simp [haf]))).trans E3.out
          replace j4 := Lib.hid j4
          clear haf hfb
          rw [HLIT.out]
          go_simp
          exact hK.out _ _ (RS.next (wv := wv) (vs := vs) 6 (x := .pointer (some ⟨w.heap.size, 0, none⟩)) (by rw [HLIT.out]; simp only [upv, e3, Nat.reduceBEq, cond_true, cond_false]) (by rw [HG.out]; exact j4.out) hM.out (by rw [HG.out]; exact fun _ _ h => h) (by rw [HG.out]; exact E6.out.symm))
        · intro bf ac wv hfb haf hJ K' hK
          obtain ⟨vs, rfl, hM, j4⟩ := hJ
          replace hK := Lib.hid hK
          replace hM := Lib.hid hM
          rw [HG.out] at j4
          simp [Region.binds] at haf
          have e3 := ((j4 3 (by simp [haf]))).trans E3.out
          have e6 := ((j4 6 (by simp [haf]))).trans E6.out
          replace j4 := Lib.hid j4
          clear haf hfb
          have xx0 := (HCq.out.step hM.out).c 0 rfl
          have xxz := (HCq.out.step hM.out).2.2
          rw [HLIT.out]
          go_simp
          exact hK.out _ _ (RS.next (wv := wv) (vs := vs) 7 (x := .int .i64 nx) (by rw [HLIT.out]; simp only [upv, e3, e6, Nat.reduceBEq, cond_true, cond_false]) (by rw [HG.out]; exact j4.out) hM.out (by rw [HG.out]; exact fun _ _ h => h) (by rw [HG.out]; exact E7.out.symm))
        · intro bf ac wv hfb haf hJ K' hK
          obtain ⟨vs, rfl, hM, j4⟩ := hJ
          replace hK := Lib.hid hK
          replace hM := Lib.hid hM
          rw [HG.out] at j4
          simp [Region.binds] at haf
          have e3 := ((j4 3 (by simp [haf]))).trans E3.out
          have e5 := ((j4 5 (by simp [haf]))).trans E5.out
          have e7 := ((j4 7 (by simp [haf]))).trans E7.out
          replace j4 := Lib.hid j4
          clear haf hfb
          rw [HLIT.out]
          go_simp
          exact hK.out _ _ (RS.next (wv := wv) (vs := vs) 8 (x := .bool true) (by rw [HLIT.out]; simp only [upv, e3, e5, e7, Nat.reduceBEq, cond_true, cond_false]) (by rw [HG.out]; exact j4.out) hM.out (by rw [HG.out]; exact fun _ _ h => h) (by rw [HG.out]; exact E8.out.symm))
        · intro bf ac wv hfb haf hJ K' hK
          obtain ⟨vs, rfl, hM, j4⟩ := hJ
          replace hK := Lib.hid hK
          replace hM := Lib.hid hM
          rw [HG.out] at j4
          simp [Region.binds] at haf
          have e3 := ((j4 3 (by simp [haf]))).trans E3.out
          have e8 := ((j4 8 (by simp [haf]))).trans E8.out
          replace j4 := Lib.hid j4
          clear haf hfb
          rw [HLIT.out]
          go_simp
          exact hK.out _ _ (RS.next (wv := wv) (vs := vs) 9 (x := .bool true) (by rw [HLIT.out]; simp only [upv, e3, e8, Nat.reduceBEq, cond_true, cond_false]) (by rw [HG.out]; exact j4.out) hM.out (by rw [HG.out]; exact fun _ _ h => h) (by rw [HG.out]; exact E9.out.symm))
        · intro bf ac wv hfb haf hJ K' hK
          obtain ⟨vs, rfl, hM, j4⟩ := hJ
          replace hK := Lib.hid hK
          replace hM := Lib.hid hM
          rw [HG.out] at j4
          simp [Region.binds] at haf
          have e9 := ((j4 9 (by simp [haf]))).trans E9.out
          replace j4 := Lib.hid j4
          clear haf hfb
          rw [HLIT.out]
          go_simp
          exact hK.out _ _ (RS.next (wv := wv) (vs := vs) 10 (x := .bool true) (by rw [HLIT.out]; simp only [upv, e9, Nat.reduceBEq, cond_true, cond_false]) (by rw [HG.out]; exact j4.out) hM.out (by rw [HG.out]; exact fun _ _ h => h) (by rw [HG.out]; exact E10.out.symm))
        · intro bf ac wv hfb haf hJ K' hK
          obtain ⟨vs, rfl, hM, j4⟩ := hJ
          replace hK := Lib.hid hK
          replace hM := Lib.hid hM
          rw [HG.out] at j4
          simp [Region.binds] at haf
          have e10 := ((j4 10 (by simp [haf]))).trans E10.out
          replace j4 := Lib.hid j4
          clear haf hfb
          rw [HLIT.out]
          go_simp
          exact hK.out _ _ (RS.next (wv := wv) (vs := vs) 11 (x := undef) (by rw [HLIT.out]; simp only [upv, e10, Nat.reduceBEq, cond_true, cond_false]) (by rw [HG.out]; exact j4.out) hM.out (by rw [HG.out]; exact fun _ _ h => h) (by rw [HG.out]; exact E11.out.symm))
        · intro bf ac wv hfb haf hJ K' hK
          obtain ⟨vs, rfl, hM, j4⟩ := hJ
          replace hK := Lib.hid hK
          replace hM := Lib.hid hM
          rw [HG.out] at j4
          simp [Region.binds] at haf
          have e10 := ((j4 10 (by simp [haf]))).trans E10.out
          replace j4 := Lib.hid j4
          clear haf hfb
          rw [HLIT.out]
          go_simp
          exact hK.out _ _ (RS.next (wv := wv) (vs := vs) 12 (x := undef) (by rw [HLIT.out]; simp only [upv, e10, Nat.reduceBEq, cond_true, cond_false]) (by rw [HG.out]; exact j4.out) hM.out (by rw [HG.out]; exact fun _ _ h => h) (by rw [HG.out]; exact E12.out.symm))
        · intro bf ac wv hfb haf hJ K' hK
          obtain ⟨vs, rfl, hM, j4⟩ := hJ
          replace hK := Lib.hid hK
          replace hM := Lib.hid hM
          rw [HG.out] at j4
          simp [Region.binds] at haf
          have e10 := ((j4 10 (by simp [haf]))).trans E10.out
          replace j4 := Lib.hid j4
          clear haf hfb
          rw [HLIT.out]
          go_simp
          exact hK.out _ _ (RS.next (wv := wv) (vs := vs) 13 (x := undef) (by rw [HLIT.out]; simp only [upv, e10, Nat.reduceBEq, cond_true, cond_false]) (by rw [HG.out]; exact j4.out) hM.out (by rw [HG.out]; exact fun _ _ h => h) (by rw [HG.out]; exact E13.out.symm))
        · intro bf ac wv hfb haf hJ K' hK
          obtain ⟨vs, rfl, hM, j4⟩ := hJ
          replace hK := Lib.hid hK
          replace hM := Lib.hid hM
          rw [HG.out] at j4
          simp [Region.binds] at haf
          have e10 := ((j4 10 (by simp [haf]))).trans E10.out
          replace j4 := Lib.hid j4
          clear haf hfb
          rw [HLIT.out]
          go_simp
          exact hK.out _ _ (RS.next (wv := wv) (vs := vs) 14 (x := undef) (by rw [HLIT.out]; simp only [upv, e10, Nat.reduceBEq, cond_true, cond_false]) (by rw [HG.out]; exact j4.out) hM.out (by rw [HG.out]; exact fun _ _ h => h) (by rw [HG.out]; exact E14.out.symm))
        · intro bf ac wv hfb haf hJ K' hK
          obtain ⟨vs, rfl, hM, j4⟩ := hJ
          replace hK := Lib.hid hK
          replace hM := Lib.hid hM
          rw [HG.out] at j4
          simp [Region.binds] at haf
          have e10 := ((j4 10 (by simp [haf]))).trans E10.out
          replace j4 := Lib.hid j4
          clear haf hfb
          rw [HLIT.out]
          go_simp
          exact hK.out _ _ (RS.next (wv := wv) (vs := vs) 15 (x := undef) (by rw [HLIT.out]; simp only [upv, e10, Nat.reduceBEq, cond_true, cond_false]) (by rw [HG.out]; exact j4.out) hM.out (by rw [HG.out]; exact fun _ _ h => h) (by rw [HG.out]; exact E15.out.symm))
        · intro bf ac wv hfb haf hJ K' hK
          obtain ⟨vs, rfl, hM, j4⟩ := hJ
          replace hK := Lib.hid hK
          replace hM := Lib.hid hM
          rw [HG.out] at j4
          simp [Region.binds] at haf
          have e10 := ((j4 10 (by simp [haf]))).trans E10.out
          replace j4 := Lib.hid j4
          clear haf hfb
          rw [HLIT.out]
          go_simp
          exact hK.out _ _ (RS.next (wv := wv) (vs := vs) 16 (x := undef) (by rw [HLIT.out]; simp only [upv, e10, Nat.reduceBEq, cond_true, cond_false]) (by rw [HG.out]; exact j4.out) hM.out (by rw [HG.out]; exact fun _ _ h => h) (by rw [HG.out]; exact E16.out.symm))
        · intro bf ac wv hfb haf hJ K' hK
          obtain ⟨vs, rfl, hM, j4⟩ := hJ
          replace hK := Lib.hid hK
          replace hM := Lib.hid hM
          rw [HG.out] at j4
          simp [Region.binds] at haf
          have e10 := ((j4 10 (by simp [haf]))).trans E10.out
          replace j4 := Lib.hid j4
          clear haf hfb
          rw [HLIT.out]
          go_simp
          exact hK.out _ _ (RS.next (wv := wv) (vs := vs) 17 (x := .bool true) (by rw [HLIT.out]; simp only [upv, e10, Nat.reduceBEq, cond_true, cond_false]) (by rw [HG.out]; exact j4.out) hM.out (by rw [HG.out]; exact fun _ _ h => h) (by rw [HG.out]; exact E17.out.symm))
        · intro bf ac wv hfb haf hJ K' hK
          obtain ⟨vs, rfl, hM, j4⟩ := hJ
          replace hK := Lib.hid hK
          replace hM := Lib.hid hM
          rw [HG.out] at j4
          simp [Region.binds] at haf
          have e17 := ((j4 17 (by simp [haf]))).trans E17.out
          replace j4 := Lib.hid j4
          clear haf hfb
          rw [HLIT.out]
          go_simp
          exact hK.out _ _ (RS.next (wv := wv) (vs := vs) 18 (x := .bool true) (by rw [HLIT.out]; simp only [upv, e17, Nat.reduceBEq, cond_true, cond_false]) (by rw [HG.out]; exact j4.out) hM.out (by rw [HG.out]; exact fun _ _ h => h) (by rw [HG.out]; exact E18.out.symm))
        · intro bf ac wv hfb haf hJ K' hK
          obtain ⟨vs, rfl, hM, j4⟩ := hJ
          replace hK := Lib.hid hK
          replace hM := Lib.hid hM
          rw [HG.out] at j4
          simp [Region.binds] at haf
          have e18 := ((j4 18 (by simp [haf]))).trans E18.out
          replace j4 := Lib.hid j4
          clear haf hfb
          rw [HLIT.out]
          go_simp
          exact hK.out _ _ (RS.next (wv := wv) (vs := vs) 19 (x := undef) (by rw [HLIT.out]; simp only [upv, e18, Nat.reduceBEq, cond_true, cond_false]) (by rw [HG.out]; exact j4.out) hM.out (by rw [HG.out]; exact fun _ _ h => h) (by rw [HG.out]; exact E19.out.symm))
        · intro bf ac wv hfb haf hJ K' hK
          obtain ⟨vs, rfl, hM, j4⟩ := hJ
          replace hK := Lib.hid hK
          replace hM := Lib.hid hM
          rw [HG.out] at j4
          simp [Region.binds] at haf
          have e18 := ((j4 18 (by simp [haf]))).trans E18.out
          replace j4 := Lib.hid j4
          clear haf hfb
          rw [HLIT.out]
          go_simp
          exact hK.out _ _ (RS.next (wv := wv) (vs := vs) 20 (x := undef) (by rw [HLIT.out]; simp only [upv, e18, Nat.reduceBEq, cond_true, cond_false]) (by rw [HG.out]; exact j4.out) hM.out (by rw [HG.out]; exact fun _ _ h => h) (by rw [HG.out]; exact E20.out.symm))
        · intro bf ac wv hfb haf hJ K' hK
          obtain ⟨vs, rfl, hM, j4⟩ := hJ
          replace hK := Lib.hid hK
          replace hM := Lib.hid hM
          rw [HG.out] at j4
          simp [Region.binds] at haf
          have e18 := ((j4 18 (by simp [haf]))).trans E18.out
          replace j4 := Lib.hid j4
          clear haf hfb
          rw [HLIT.out]
          go_simp
          exact hK.out _ _ (RS.next (wv := wv) (vs := vs) 21 (x := undef) (by rw [HLIT.out]; simp only [upv, e18, Nat.reduceBEq, cond_true, cond_false]) (by rw [HG.out]; exact j4.out) hM.out (by rw [HG.out]; exact fun _ _ h => h) (by rw [HG.out]; exact E21.out.symm))
        · intro bf ac wv hfb haf hJ K' hK
          obtain ⟨vs, rfl, hM, j4⟩ := hJ
          replace hK := Lib.hid hK
          replace hM := Lib.hid hM
          rw [HG.out] at j4
          simp [Region.binds] at haf
          have e21 := ((j4 21 (by simp [haf]))).trans E21.out
          replace j4 := Lib.hid j4
          clear haf hfb
          rw [HLIT.out]
          go_simp
          exact hK.out _ _ (RS.next (wv := wv) (vs := vs) 22 (x := undef) (by rw [HLIT.out]; simp only [upv, e21, Nat.reduceBEq, cond_true, cond_false]) (by rw [HG.out]; exact j4.out) hM.out (by rw [HG.out]; exact fun _ _ h => h) (by rw [HG.out]; exact E22.out.symm))
        · intro bf ac wv hfb haf hJ K' hK
          obtain ⟨vs, rfl, hM, j4⟩ := hJ
          replace hK := Lib.hid hK
          replace hM := Lib.hid hM
          rw [HG.out] at j4
          simp [Region.binds] at haf
          have e21 := ((j4 21 (by simp [haf]))).trans E21.out
          replace j4 := Lib.hid j4
          clear haf hfb
          rw [HLIT.out]
          go_simp
          exact hK.out _ _ (RS.next (wv := wv) (vs := vs) 23 (x := undef) (by rw [HLIT.out]; simp only [upv, e21, Nat.reduceBEq, cond_true, cond_false]) (by rw [HG.out]; exact j4.out) hM.out (by rw [HG.out]; exact fun _ _ h => h) (by rw [HG.out]; exact E23.out.symm))
        · intro bf ac wv hfb haf hJ K' hK
          obtain ⟨vs, rfl, hM, j4⟩ := hJ
          replace hK := Lib.hid hK
          replace hM := Lib.hid hM
          rw [HG.out] at j4
          simp [Region.binds] at haf
          have e21 := ((j4 21 (by simp [haf]))).trans E21.out
          replace j4 := Lib.hid j4
          clear haf hfb
          rw [HLIT.out]
          go_simp
          exact hK.out _ _ (RS.next (wv := wv) (vs := vs) 24 (x := undef) (by rw [HLIT.out]; simp only [upv, e21, Nat.reduceBEq, cond_true, cond_false]) (by rw [HG.out]; exact j4.out) hM.out (by rw [HG.out]; exact fun _ _ h => h) (by rw [HG.out]; exact E24.out.symm))
        · intro bf ac wv hfb haf hJ K' hK
          obtain ⟨vs, rfl, hM, j4⟩ := hJ
          replace hK := Lib.hid hK
          replace hM := Lib.hid hM
          rw [HG.out] at j4
          simp [Region.binds] at haf
          have e21 := ((j4 21 (by simp [haf]))).trans E21.out
          replace j4 := Lib.hid j4
          clear haf hfb
          rw [HLIT.out]
          go_simp
          exact hK.out _ _ (RS.next (wv := wv) (vs := vs) 25 (x := undef) (by rw [HLIT.out]; simp only [upv, e21, Nat.reduceBEq, cond_true, cond_false]) (by rw [HG.out]; exact j4.out) hM.out (by rw [HG.out]; exact fun _ _ h => h) (by rw [HG.out]; exact E25.out.symm))
        · intro bf ac wv hfb haf hJ K' hK
          obtain ⟨vs, rfl, hM, j4⟩ := hJ
          replace hK := Lib.hid hK
          replace hM := Lib.hid hM
          rw [HG.out] at j4
          simp [Region.binds] at haf
          have e21 := ((j4 21 (by simp [haf]))).trans E21.out
          replace j4 := Lib.hid j4
          clear haf hfb
          rw [HLIT.out]
          go_simp
          exact hK.out _ _ (RS.next (wv := wv) (vs := vs) 26 (x := undef) (by rw [HLIT.out]; simp only [upv, e21, Nat.reduceBEq, cond_true, cond_false]) (by rw [HG.out]; exact j4.out) hM.out (by rw [HG.out]; exact fun _ _ h => h) (by rw [HG.out]; exact E26.out.symm))
        · intro bf ac wv hfb haf hJ K' hK
          obtain ⟨vs, rfl, hM, j4⟩ := hJ
          replace hK := Lib.hid hK
          replace hM := Lib.hid hM
          rw [HG.out] at j4
          simp [Region.binds] at haf
          have e21 := ((j4 21 (by simp [haf]))).trans E21.out
          replace j4 := Lib.hid j4
          clear haf hfb
          rw [HLIT.out]
          go_simp
          exact hK.out _ _ (RS.next (wv := wv) (vs := vs) 27 (x := undef) (by rw [HLIT.out]; simp only [upv, e21, Nat.reduceBEq, cond_true, cond_false]) (by rw [HG.out]; exact j4.out) hM.out (by rw [HG.out]; exact fun _ _ h => h) (by rw [HG.out]; exact E27.out.symm))
        · intro bf ac wv hfb haf hJ K' hK
          obtain ⟨vs, rfl, hM, j4⟩ := hJ
          replace hK := Lib.hid hK
          replace hM := Lib.hid hM
          rw [HG.out] at j4
          simp [Region.binds] at haf
          have e21 := ((j4 21 (by simp [haf]))).trans E21.out
          replace j4 := Lib.hid j4
          clear haf hfb
          rw [HLIT.out]
          go_simp
          exact hK.out _ _ (RS.next (wv := wv) (vs := vs) 28 (x := undef) (by rw [HLIT.out]; simp only [upv, e21, Nat.reduceBEq, cond_true, cond_false]) (by rw [HG.out]; exact j4.out) hM.out (by rw [HG.out]; exact fun _ _ h => h) (by rw [HG.out]; exact E28.out.symm))
        · intro bf ac wv hfb haf hJ K' hK
          obtain ⟨vs, rfl, hM, j4⟩ := hJ
          replace hK := Lib.hid hK
          replace hM := Lib.hid hM
          rw [HG.out] at j4
          simp [Region.binds] at haf
          have e21 := ((j4 21 (by simp [haf]))).trans E21.out
          replace j4 := Lib.hid j4
          clear haf hfb
          rw [HLIT.out]
          go_simp
          exact hK.out _ _ (RS.next (wv := wv) (vs := vs) 29 (x := undef) (by rw [HLIT.out]; simp only [upv, e21, Nat.reduceBEq, cond_true, cond_false]) (by rw [HG.out]; exact j4.out) hM.out (by rw [HG.out]; exact fun _ _ h => h) (by rw [HG.out]; exact E29.out.symm))
        · intro bf ac wv hfb haf hJ K' hK
          obtain ⟨vs, rfl, hM, j4⟩ := hJ
          replace hK := Lib.hid hK
          replace hM := Lib.hid hM
          rw [HG.out] at j4
          simp [Region.binds] at haf
          have e21 := ((j4 21 (by simp [haf]))).trans E21.out
          replace j4 := Lib.hid j4
          clear haf hfb
          rw [HLIT.out]
          go_simp
          exact hK.out _ _ (RS.next (wv := wv) (vs := vs) 30 (x := undef) (by rw [HLIT.out]; simp only [upv, e21, Nat.reduceBEq, cond_true, cond_false]) (by rw [HG.out]; exact j4.out) hM.out (by rw [HG.out]; exact fun _ _ h => h) (by rw [HG.out]; exact E30.out.symm))
        · intro bf ac wv hfb haf hJ K' hK
          obtain ⟨vs, rfl, hM, j4⟩ := hJ
          replace hK := Lib.hid hK
          replace hM := Lib.hid hM
          rw [HG.out] at j4
          simp [Region.binds] at haf
          have e21 := ((j4 21 (by simp [haf]))).trans E21.out
          replace j4 := Lib.hid j4
          clear haf hfb
          rw [HLIT.out]
          go_simp
          exact hK.out _ _ (RS.next (wv := wv) (vs := vs) 31 (x := undef) (by rw [HLIT.out]; simp only [upv, e21, Nat.reduceBEq, cond_true, cond_false]) (by rw [HG.out]; exact j4.out) hM.out (by rw [HG.out]; exact fun _ _ h => h) (by rw [HG.out]; exact E31.out.symm))
        · intro bf ac wv hfb haf hJ K' hK
          obtain ⟨vs, rfl, hM, j4⟩ := hJ
          replace hK := Lib.hid hK
          replace hM := Lib.hid hM
          rw [HG.out] at j4
          simp [Region.binds] at haf
          have e18 := ((j4 18 (by simp [haf]))).trans E18.out
          replace j4 := Lib.hid j4
          clear haf hfb
          rw [HLIT.out]
          go_simp
          exact hK.out _ _ (RS.next (wv := wv) (vs := vs) 32 (x := undef) (by rw [HLIT.out]; simp only [upv, e18, Nat.reduceBEq, cond_true, cond_false]) (by rw [HG.out]; exact j4.out) hM.out (by rw [HG.out]; exact fun _ _ h => h) (by rw [HG.out]; exact E32.out.symm))
        · intro bf ac wv hfb haf hJ K' hK
          obtain ⟨vs, rfl, hM, j4⟩ := hJ
          replace hK := Lib.hid hK
          replace hM := Lib.hid hM
          rw [HG.out] at j4
          simp [Region.binds] at haf
          have e18 := ((j4 18 (by simp [haf]))).trans E18.out
          replace j4 := Lib.hid j4
          clear haf hfb
          rw [HLIT.out]
          go_simp
          exact hK.out _ _ (RS.next (wv := wv) (vs := vs) 33 (x := .bool true) (by rw [HLIT.out]; simp only [upv, e18, Nat.reduceBEq, cond_true, cond_false]) (by rw [HG.out]; exact j4.out) hM.out (by rw [HG.out]; exact fun _ _ h => h) (by rw [HG.out]; exact E33.out.symm))
      · intro bf ac wv hall hJ
        obtain ⟨vs, rfl, hM, j4⟩ := hJ
        rw [HG.out] at j4
        have hlast := ((j4 33 (hall 33 (by decide)))).trans E33.out
        clear j4 hall
        rw [HLIT.out]
        dsimp only
        rw [hlast]
        clear hlast
        have HB9 := Lib.hid (HW.out.trans ((keep2 hM HBo.out).mono HW.out.size))
        go_wp2
        go_ret
        exact ⟨by rw [HE.out]; rfl, keep2 HB9.out HB0.out⟩
    have d1 : decide (xa ≥ nx) = false := by simpa using q1
    have d2 : decide (nx ≤ xa) = false := decide_eq_false q1
    by_cases q2 : xa < nx - 16
    · have d3 : decide (xa < nx - 16) = true := decide_eq_true q2
      have HE := Lib.hid (show r = false by
        rw [Bool.eq_false_iff]
        intro e
        have h9 := HS.out.1 ((HR.out.1 e).2 k hlt)
        have h10 := sn_low k (fun j hj => (HR.out.1 e).2 j (by omega))
        rw [HXK.out] at h10
        have h11 : nx - 16 ≤ xa := h10
        omega)
      clear HN HS hok
      obtain ⟨lit, hlit⟩ : ∃ lit : (Nat → Value) → Act, lit = fun vs => { tmps := List.toArray (Value.agg #[Value.int IntKind.i64 nx, Value.slice (some { block := b1, off := o1 }) L.length sc] :: Value.pointer (some { block := w.heap.size, off := 0 }) :: u2 :: Value.int IntKind.i64 (k : Int) :: Value.pointer (some { block := wr.heap.size, off := 0 }) :: Value.pointer (some { block := w.heap.size, off := 0 }) :: Value.int IntKind.i64 nx :: Value.bool true :: Value.bool false :: Value.int IntKind.i64 (k : Int) :: Value.pointer (some { block := w.heap.size, off := 1 }) :: Value.slice (some { block := b1, off := o1 }) L.length sc :: Value.int IntKind.i64 (L.length : Int) :: Value.bool true :: u14 :: u15 :: Value.pointer (some { block := w.heap.size, off := 1 }) :: Value.slice (some { block := b1, off := o1 }) L.length sc :: Value.int IntKind.i64 (k : Int) :: Value.pointer (some { block := b1, off := o1 + k * 4 }) :: Value.agg #[Value.int IntKind.i64 xa, Value.int IntKind.i64 xb, Value.int IntKind.i64 xc, Value.int IntKind.i64 xd] :: vs 0 :: vs 1 :: vs 2 :: vs 3 :: vs 4 :: vs 5 :: vs 6 :: vs 7 :: vs 8 :: vs 9 :: vs 10 :: vs 11 :: vs 12 :: vs 13 :: vs 14 :: vs 15 :: vs 16 :: vs 17 :: vs 18 :: vs 19 :: vs 20 :: vs 21 :: vs 22 :: vs 23 :: vs 24 :: vs 25 :: vs 26 :: vs 27 :: vs 28 :: vs 29 :: vs 30 :: vs 31 :: vs 32 :: vs 33 :: []), defers := [] } := ⟨_, rfl⟩
      have HLIT := Lib.hid hlit
      clear hlit
      obtain ⟨val, hval⟩ : ∃ val : List Value, val = [.agg #[.int .i64 xa, .int .i64 xb, .int .i64 xc, .int .i64 xd], .bool true, .bool false, .bool false, .pointer (some ⟨wr.heap.size, 0, none⟩), .int .i64 xa, .pointer (some ⟨w.heap.size, 0, none⟩), .int .i64 nx, .bool false, .bool false, .bool false, .pointer (some ⟨wr.heap.size, 0, none⟩), .int .i64 xa, .pointer (some ⟨w.heap.size, 0, none⟩), .int .i64 nx, .int .i64 (nx - 16), .bool true, .bool true, .bool true, undef, undef, undef, undef, undef, undef, undef, undef, undef, undef, undef, undef, undef, undef, .bool true] := ⟨_, rfl⟩
      have E0 := Lib.hid (show val.getD 0 undef = .agg #[.int .i64 xa, .int .i64 xb, .int .i64 xc, .int .i64 xd] by rw [hval]; rfl)
      have E1 := Lib.hid (show val.getD 1 undef = .bool true by rw [hval]; rfl)
      have E2 := Lib.hid (show val.getD 2 undef = .bool false by rw [hval]; rfl)
      have E3 := Lib.hid (show val.getD 3 undef = .bool false by rw [hval]; rfl)
      have E4 := Lib.hid (show val.getD 4 undef = .pointer (some ⟨wr.heap.size, 0, none⟩) by rw [hval]; rfl)
      have E5 := Lib.hid (show val.getD 5 undef = .int .i64 xa by rw [hval]; rfl)
      have E6 := Lib.hid (show val.getD 6 undef = .pointer (some ⟨w.heap.size, 0, none⟩) by rw [hval]; rfl)
      have E7 := Lib.hid (show val.getD 7 undef = .int .i64 nx by rw [hval]; rfl)
      have E8 := Lib.hid (show val.getD 8 undef = .bool false by rw [hval]; rfl)
      have E9 := Lib.hid (show val.getD 9 undef = .bool false by rw [hval]; rfl)
      have E10 := Lib.hid (show val.getD 10 undef = .bool false by rw [hval]; rfl)
      have E11 := Lib.hid (show val.getD 11 undef = .pointer (some ⟨wr.heap.size, 0, none⟩) by rw [hval]; rfl)
      have E12 := Lib.hid (show val.getD 12 undef = .int .i64 xa by rw [hval]; rfl)
      have E13 := Lib.hid (show val.getD 13 undef = .pointer (some ⟨w.heap.size, 0, none⟩) by rw [hval]; rfl)
      have E14 := Lib.hid (show val.getD 14 undef = .int .i64 nx by rw [hval]; rfl)
      have E15 := Lib.hid (show val.getD 15 undef = .int .i64 (nx - 16) by rw [hval]; rfl)
      have E16 := Lib.hid (show val.getD 16 undef = .bool true by rw [hval]; rfl)
      have E17 := Lib.hid (show val.getD 17 undef = .bool true by rw [hval]; rfl)
      have E18 := Lib.hid (show val.getD 18 undef = .bool true by rw [hval]; rfl)
      have E19 := Lib.hid (show val.getD 19 undef = undef by rw [hval]; rfl)
      have E20 := Lib.hid (show val.getD 20 undef = undef by rw [hval]; rfl)
      have E21 := Lib.hid (show val.getD 21 undef = undef by rw [hval]; rfl)
      have E22 := Lib.hid (show val.getD 22 undef = undef by rw [hval]; rfl)
      have E23 := Lib.hid (show val.getD 23 undef = undef by rw [hval]; rfl)
      have E24 := Lib.hid (show val.getD 24 undef = undef by rw [hval]; rfl)
      have E25 := Lib.hid (show val.getD 25 undef = undef by rw [hval]; rfl)
      have E26 := Lib.hid (show val.getD 26 undef = undef by rw [hval]; rfl)
      have E27 := Lib.hid (show val.getD 27 undef = undef by rw [hval]; rfl)
      have E28 := Lib.hid (show val.getD 28 undef = undef by rw [hval]; rfl)
      have E29 := Lib.hid (show val.getD 29 undef = undef by rw [hval]; rfl)
      have E30 := Lib.hid (show val.getD 30 undef = undef by rw [hval]; rfl)
      have E31 := Lib.hid (show val.getD 31 undef = undef by rw [hval]; rfl)
      have E32 := Lib.hid (show val.getD 32 undef = undef by rw [hval]; rfl)
      have E33 := Lib.hid (show val.getD 33 undef = .bool true by rw [hval]; rfl)
      clear hval
      obtain ⟨G, hG0⟩ : ∃ G : Nat → Value → World → Prop, G = (fun i v w => (v = val.getD i undef)) := ⟨_, rfl⟩
      have HG := Lib.hid hG0
      clear hG0
      refine region_inv (RS lit wq G) (by kernel_rfl) (by decide +kernel) ?_ ?_ ?_
      · exact ⟨fun i => ([u21, u22, u23, u24, u25, u26, u27, u28, u29, u30, u31, u32, u33, u34, u35, u36, u37, u38, u39, u40, u41, u42, u43, u44, u45, u46, u47, u48, u49, u50, u51, u52, u53, u54] : List Value).getD i undef, (by rw [HLIT.out]; rfl), below_drew _ _, fun i h => by cases h⟩
      · refine ⟨?_, ?_, ?_, ?_, ?_, ?_, ?_, ?_, ?_, ?_, ?_, ?_, ?_, ?_, ?_, ?_, ?_, ?_, ?_, ?_, ?_, ?_, ?_, ?_, ?_, ?_, ?_, ?_, ?_, ?_, ?_, ?_, ?_, ?_, trivial⟩
        · intro bf ac wv hfb haf hJ K' hK
          obtain ⟨vs, rfl, hM, j4⟩ := hJ
          replace hK := Lib.hid hK
          replace hM := Lib.hid hM
          rw [HG.out] at j4
          replace j4 := Lib.hid j4
          clear haf hfb
          have xx0 := (HO.out.step hM.out).c 0 rfl
          have xx1 := (HO.out.step hM.out).c 1 rfl
          have xx2 := (HO.out.step hM.out).c 2 rfl
          have xx3 := (HO.out.step hM.out).c 3 rfl
          have xxz := (HO.out.step hM.out).2.2
          rw [HLIT.out]
          go_simp
          exact hK.out _ _ (RS.next (wv := wv) (vs := vs) 0 (x := .agg #[.int .i64 xa, .int .i64 xb, .int .i64 xc, .int .i64 xd]) (by rw [HLIT.out]; rfl) (by rw [HG.out]; exact j4.out) hM.out (by rw [HG.out]; exact fun _ _ h => h) (by rw [HG.out]; exact E0.out.symm))
        · intro bf ac wv hfb haf hJ K' hK
          obtain ⟨vs, rfl, hM, j4⟩ := hJ
          replace hK := Lib.hid hK
          replace hM := Lib.hid hM
          rw [HG.out] at j4
          simp [Region.binds] at haf
          have e0 := ((j4 0 (by simp [haf]))).trans E0.out
          replace j4 := Lib.hid j4
          clear haf hfb
          rw [HLIT.out]
          go_simp
          go_at_call 26
          refine (rorder_any xa xb xc xd true HOK.out _).mono ?_
          rintro e w4 ⟨rfl, b4⟩
          exact hK.out _ _ (RS.next (wv := wv) (vs := vs) 1 (x := .bool true) (by rw [HLIT.out]; simp only [upv, e0, Nat.reduceBEq, cond_true, cond_false]) (by rw [HG.out]; exact j4.out) (keep2 b4 hM.out) (by rw [HG.out]; exact fun _ _ h => h) (by rw [HG.out]; exact E1.out.symm))
        · intro bf ac wv hfb haf hJ K' hK
          obtain ⟨vs, rfl, hM, j4⟩ := hJ
          replace hK := Lib.hid hK
          replace hM := Lib.hid hM
          rw [HG.out] at j4
          simp [Region.binds] at haf
          have e1 := ((j4 1 (by simp [haf]))).trans E1.out
          replace j4 := Lib.hid j4
          clear haf hfb
          rw [HLIT.out]
          go_simp
          exact hK.out _ _ (RS.next (wv := wv) (vs := vs) 2 (x := .bool false) (by rw [HLIT.out]; simp only [upv, e1, Nat.reduceBEq, cond_true, cond_false]) (by rw [HG.out]; exact j4.out) hM.out (by rw [HG.out]; exact fun _ _ h => h) (by rw [HG.out]; exact E2.out.symm))
        · intro bf ac wv hfb haf hJ K' hK
          obtain ⟨vs, rfl, hM, j4⟩ := hJ
          replace hK := Lib.hid hK
          replace hM := Lib.hid hM
          rw [HG.out] at j4
          simp [Region.binds] at haf
          have e2 := ((j4 2 (by simp [haf]))).trans E2.out
          replace j4 := Lib.hid j4
          clear haf hfb
          rw [HLIT.out]
          go_simp
          exact hK.out _ _ (RS.next (wv := wv) (vs := vs) 3 (x := .bool false) (by rw [HLIT.out]; simp only [upv, e2, Nat.reduceBEq, cond_true, cond_false]) (by rw [HG.out]; exact j4.out) hM.out (by rw [HG.out]; exact fun _ _ h => h) (by rw [HG.out]; exact E3.out.symm))
        · intro bf ac wv hfb haf hJ K' hK
          obtain ⟨vs, rfl, hM, j4⟩ := hJ
          replace hK := Lib.hid hK
          replace hM := Lib.hid hM
          rw [HG.out] at j4
          simp [Region.binds] at haf
          have e3 := ((j4 3 (by simp [haf]))).trans E3.out
          replace j4 := Lib.hid j4
          clear haf hfb
          rw [HLIT.out]
          go_simp
          exact hK.out _ _ (RS.next (wv := wv) (vs := vs) 4 (x := .pointer (some ⟨wr.heap.size, 0, none⟩)) (by rw [HLIT.out]; simp only [upv, e3, Nat.reduceBEq, cond_true, cond_false]) (by rw [HG.out]; exact j4.out) hM.out (by rw [HG.out]; exact fun _ _ h => h) (by rw [HG.out]; exact E4.out.symm))
        · intro bf ac wv hfb haf hJ K' hK
          obtain ⟨vs, rfl, hM, j4⟩ := hJ
          replace hK := Lib.hid hK
          replace hM := Lib.hid hM
          rw [HG.out] at j4
          simp [Region.binds] at haf
          have e3 := ((j4 3 (by simp [haf]))).trans E3.out
          have e4 := ((j4 4 (by simp [haf]))).trans E4.out
          replace j4 := Lib.hid j4
          clear haf hfb
          have xx0 := (HO.out.step hM.out).c 0 rfl
          have xxz := (HO.out.step hM.out).2.2
          rw [HLIT.out]
          go_simp
          exact hK.out _ _ (RS.next (wv := wv) (vs := vs) 5 (x := .int .i64 xa) (by rw [HLIT.out]; simp only [upv, e3, e4, Nat.reduceBEq, cond_true, cond_false]) (by rw [HG.out]; exact j4.out) hM.out (by rw [HG.out]; exact fun _ _ h => h) (by rw [HG.out]; exact E5.out.symm))
        · intro bf ac wv hfb haf hJ K' hK
          obtain ⟨vs, rfl, hM, j4⟩ := hJ
          replace hK := Lib.hid hK
          replace hM := Lib.hid hM
          rw [HG.out] at j4
          simp [Region.binds] at haf
          have e3 := ((j4 3 (by simp [haf]))).trans E3.out
          replace j4 := Lib.hid j4
          clear haf hfb
          rw [HLIT.out]
          go_simp
          exact hK.out _ _ (RS.next (wv := wv) (vs := vs) 6 (x := .pointer (some ⟨w.heap.size, 0, none⟩)) (by rw [HLIT.out]; simp only [upv, e3, Nat.reduceBEq, cond_true, cond_false]) (by rw [HG.out]; exact j4.out) hM.out (by rw [HG.out]; exact fun _ _ h => h) (by rw [HG.out]; exact E6.out.symm))
        · intro bf ac wv hfb haf hJ K' hK
          obtain ⟨vs, rfl, hM, j4⟩ := hJ
          replace hK := Lib.hid hK
          replace hM := Lib.hid hM
          rw [HG.out] at j4
          simp [Region.binds] at haf
          have e3 := ((j4 3 (by simp [haf]))).trans E3.out
          have e6 := ((j4 6 (by simp [haf]))).trans E6.out
          replace j4 := Lib.hid j4
          clear haf hfb
          have xx0 := (HCq.out.step hM.out).c 0 rfl
          have xxz := (HCq.out.step hM.out).2.2
          rw [HLIT.out]
          go_simp
          exact hK.out _ _ (RS.next (wv := wv) (vs := vs) 7 (x := .int .i64 nx) (by rw [HLIT.out]; simp only [upv, e3, e6, Nat.reduceBEq, cond_true, cond_false]) (by rw [HG.out]; exact j4.out) hM.out (by rw [HG.out]; exact fun _ _ h => h) (by rw [HG.out]; exact E7.out.symm))
        · intro bf ac wv hfb haf hJ K' hK
          obtain ⟨vs, rfl, hM, j4⟩ := hJ
          replace hK := Lib.hid hK
          replace hM := Lib.hid hM
          rw [HG.out] at j4
          simp [Region.binds] at haf
          have e3 := ((j4 3 (by simp [haf]))).trans E3.out
          have e5 := ((j4 5 (by simp [haf]))).trans E5.out
          have e7 := ((j4 7 (by simp [haf]))).trans E7.out
          replace j4 := Lib.hid j4
          clear haf hfb
          rw [HLIT.out]
          go_simp
          exact hK.out _ _ (RS.next (wv := wv) (vs := vs) 8 (x := .bool false) (by rw [HLIT.out]; simp only [upv, e3, e5, e7, Nat.reduceBEq, cond_true, cond_false]) (by rw [HG.out]; exact j4.out) hM.out (by rw [HG.out]; exact fun _ _ h => h) (by rw [HG.out]; exact E8.out.symm))
        · intro bf ac wv hfb haf hJ K' hK
          obtain ⟨vs, rfl, hM, j4⟩ := hJ
          replace hK := Lib.hid hK
          replace hM := Lib.hid hM
          rw [HG.out] at j4
          simp [Region.binds] at haf
          have e3 := ((j4 3 (by simp [haf]))).trans E3.out
          have e8 := ((j4 8 (by simp [haf]))).trans E8.out
          replace j4 := Lib.hid j4
          clear haf hfb
          rw [HLIT.out]
          go_simp
          exact hK.out _ _ (RS.next (wv := wv) (vs := vs) 9 (x := .bool false) (by rw [HLIT.out]; simp only [upv, e3, e8, Nat.reduceBEq, cond_true, cond_false]) (by rw [HG.out]; exact j4.out) hM.out (by rw [HG.out]; exact fun _ _ h => h) (by rw [HG.out]; exact E9.out.symm))
        · intro bf ac wv hfb haf hJ K' hK
          obtain ⟨vs, rfl, hM, j4⟩ := hJ
          replace hK := Lib.hid hK
          replace hM := Lib.hid hM
          rw [HG.out] at j4
          simp [Region.binds] at haf
          have e9 := ((j4 9 (by simp [haf]))).trans E9.out
          replace j4 := Lib.hid j4
          clear haf hfb
          rw [HLIT.out]
          go_simp
          exact hK.out _ _ (RS.next (wv := wv) (vs := vs) 10 (x := .bool false) (by rw [HLIT.out]; simp only [upv, e9, Nat.reduceBEq, cond_true, cond_false]) (by rw [HG.out]; exact j4.out) hM.out (by rw [HG.out]; exact fun _ _ h => h) (by rw [HG.out]; exact E10.out.symm))
        · intro bf ac wv hfb haf hJ K' hK
          obtain ⟨vs, rfl, hM, j4⟩ := hJ
          replace hK := Lib.hid hK
          replace hM := Lib.hid hM
          rw [HG.out] at j4
          simp [Region.binds] at haf
          have e10 := ((j4 10 (by simp [haf]))).trans E10.out
          replace j4 := Lib.hid j4
          clear haf hfb
          rw [HLIT.out]
          go_simp
          exact hK.out _ _ (RS.next (wv := wv) (vs := vs) 11 (x := .pointer (some ⟨wr.heap.size, 0, none⟩)) (by rw [HLIT.out]; simp only [upv, e10, Nat.reduceBEq, cond_true, cond_false]) (by rw [HG.out]; exact j4.out) hM.out (by rw [HG.out]; exact fun _ _ h => h) (by rw [HG.out]; exact E11.out.symm))
        · intro bf ac wv hfb haf hJ K' hK
          obtain ⟨vs, rfl, hM, j4⟩ := hJ
          replace hK := Lib.hid hK
          replace hM := Lib.hid hM
          rw [HG.out] at j4
          simp [Region.binds] at haf
          have e10 := ((j4 10 (by simp [haf]))).trans E10.out
          have e11 := ((j4 11 (by simp [haf]))).trans E11.out
          replace j4 := Lib.hid j4
          clear haf hfb
          have xx0 := (HO.out.step hM.out).c 0 rfl
          have xxz := (HO.out.step hM.out).2.2
          rw [HLIT.out]
          go_simp
          exact hK.out _ _ (RS.next (wv := wv) (vs := vs) 12 (x := .int .i64 xa) (by rw [HLIT.out]; simp only [upv, e10, e11, Nat.reduceBEq, cond_true, cond_false]) (by rw [HG.out]; exact j4.out) hM.out (by rw [HG.out]; exact fun _ _ h => h) (by rw [HG.out]; exact E12.out.symm))
        · intro bf ac wv hfb haf hJ K' hK
          obtain ⟨vs, rfl, hM, j4⟩ := hJ
          replace hK := Lib.hid hK
          replace hM := Lib.hid hM
          rw [HG.out] at j4
          simp [Region.binds] at haf
          have e10 := ((j4 10 (by simp [haf]))).trans E10.out
          replace j4 := Lib.hid j4
          clear haf hfb
          rw [HLIT.out]
          go_simp
          exact hK.out _ _ (RS.next (wv := wv) (vs := vs) 13 (x := .pointer (some ⟨w.heap.size, 0, none⟩)) (by rw [HLIT.out]; simp only [upv, e10, Nat.reduceBEq, cond_true, cond_false]) (by rw [HG.out]; exact j4.out) hM.out (by rw [HG.out]; exact fun _ _ h => h) (by rw [HG.out]; exact E13.out.symm))
        · intro bf ac wv hfb haf hJ K' hK
          obtain ⟨vs, rfl, hM, j4⟩ := hJ
          replace hK := Lib.hid hK
          replace hM := Lib.hid hM
          rw [HG.out] at j4
          simp [Region.binds] at haf
          have e10 := ((j4 10 (by simp [haf]))).trans E10.out
          have e13 := ((j4 13 (by simp [haf]))).trans E13.out
          replace j4 := Lib.hid j4
          clear haf hfb
          have xx0 := (HCq.out.step hM.out).c 0 rfl
          have xxz := (HCq.out.step hM.out).2.2
          rw [HLIT.out]
          go_simp
          exact hK.out _ _ (RS.next (wv := wv) (vs := vs) 14 (x := .int .i64 nx) (by rw [HLIT.out]; simp only [upv, e10, e13, Nat.reduceBEq, cond_true, cond_false]) (by rw [HG.out]; exact j4.out) hM.out (by rw [HG.out]; exact fun _ _ h => h) (by rw [HG.out]; exact E14.out.symm))
        · intro bf ac wv hfb haf hJ K' hK
          obtain ⟨vs, rfl, hM, j4⟩ := hJ
          replace hK := Lib.hid hK
          replace hM := Lib.hid hM
          rw [HG.out] at j4
          simp [Region.binds] at haf
          have e10 := ((j4 10 (by simp [haf]))).trans E10.out
          have e14 := ((j4 14 (by simp [haf]))).trans E14.out
          replace j4 := Lib.hid j4
          clear haf hfb
          rw [HLIT.out]
          go_simp
          exact hK.out _ _ (RS.next (wv := wv) (vs := vs) 15 (x := .int .i64 (nx - 16)) (by rw [HLIT.out]; simp only [upv, e10, e14, HW16.out, Nat.reduceBEq, cond_true, cond_false]) (by rw [HG.out]; exact j4.out) hM.out (by rw [HG.out]; exact fun _ _ h => h) (by rw [HG.out]; exact E15.out.symm))
        · intro bf ac wv hfb haf hJ K' hK
          obtain ⟨vs, rfl, hM, j4⟩ := hJ
          replace hK := Lib.hid hK
          replace hM := Lib.hid hM
          rw [HG.out] at j4
          simp [Region.binds] at haf
          have e10 := ((j4 10 (by simp [haf]))).trans E10.out
          have e12 := ((j4 12 (by simp [haf]))).trans E12.out
          have e15 := ((j4 15 (by simp [haf]))).trans E15.out
          replace j4 := Lib.hid j4
          clear haf hfb
          rw [HLIT.out]
          go_simp
          exact hK.out _ _ (RS.next (wv := wv) (vs := vs) 16 (x := .bool true) (by rw [HLIT.out]; simp only [upv, e10, e12, e15, Nat.reduceBEq, cond_true, cond_false]) (by rw [HG.out]; exact j4.out) hM.out (by rw [HG.out]; exact fun _ _ h => h) (by rw [HG.out]; exact E16.out.symm))
        · intro bf ac wv hfb haf hJ K' hK
          obtain ⟨vs, rfl, hM, j4⟩ := hJ
          replace hK := Lib.hid hK
          replace hM := Lib.hid hM
          rw [HG.out] at j4
          simp [Region.binds] at haf
          have e10 := ((j4 10 (by simp [haf]))).trans E10.out
          have e16 := ((j4 16 (by simp [haf]))).trans E16.out
          replace j4 := Lib.hid j4
          clear haf hfb
          rw [HLIT.out]
          go_simp
          exact hK.out _ _ (RS.next (wv := wv) (vs := vs) 17 (x := .bool true) (by rw [HLIT.out]; simp only [upv, e10, e16, Nat.reduceBEq, cond_true, cond_false]) (by rw [HG.out]; exact j4.out) hM.out (by rw [HG.out]; exact fun _ _ h => h) (by rw [HG.out]; exact E17.out.symm))
        · intro bf ac wv hfb haf hJ K' hK
          obtain ⟨vs, rfl, hM, j4⟩ := hJ
          replace hK := Lib.hid hK
          replace hM := Lib.hid hM
          rw [HG.out] at j4
          simp [Region.binds] at haf
          have e17 := ((j4 17 (by simp [haf]))).trans E17.out
          replace j4 := Lib.hid j4
          clear haf hfb
          rw [HLIT.out]
          go_simp
          exact hK.out _ _ (RS.next (wv := wv) (vs := vs) 18 (x := .bool true) (by rw [HLIT.out]; simp only [upv, e17, Nat.reduceBEq, cond_true, cond_false]) (by rw [HG.out]; exact j4.out) hM.out (by rw [HG.out]; exact fun _ _ h => h) (by rw [HG.out]; exact E18.out.symm))
        · intro bf ac wv hfb haf hJ K' hK
          obtain ⟨vs, rfl, hM, j4⟩ := hJ
          replace hK := Lib.hid hK
          replace hM := Lib.hid hM
          rw [HG.out] at j4
          simp [Region.binds] at haf
          have e18 := ((j4 18 (by simp [haf]))).trans E18.out
          replace j4 := Lib.hid j4
          clear haf hfb
          rw [HLIT.out]
          go_simp
          exact hK.out _ _ (RS.next (wv := wv) (vs := vs) 19 (x := undef) (by rw [HLIT.out]; simp only [upv, e18, Nat.reduceBEq, cond_true, cond_false]) (by rw [HG.out]; exact j4.out) hM.out (by rw [HG.out]; exact fun _ _ h => h) (by rw [HG.out]; exact E19.out.symm))
        · intro bf ac wv hfb haf hJ K' hK
          obtain ⟨vs, rfl, hM, j4⟩ := hJ
          replace hK := Lib.hid hK
          replace hM := Lib.hid hM
          rw [HG.out] at j4
          simp [Region.binds] at haf
          have e18 := ((j4 18 (by simp [haf]))).trans E18.out
          replace j4 := Lib.hid j4
          clear haf hfb
          rw [HLIT.out]
          go_simp
          exact hK.out _ _ (RS.next (wv := wv) (vs := vs) 20 (x := undef) (by rw [HLIT.out]; simp only [upv, e18, Nat.reduceBEq, cond_true, cond_false]) (by rw [HG.out]; exact j4.out) hM.out (by rw [HG.out]; exact fun _ _ h => h) (by rw [HG.out]; exact E20.out.symm))
        · intro bf ac wv hfb haf hJ K' hK
          obtain ⟨vs, rfl, hM, j4⟩ := hJ
          replace hK := Lib.hid hK
          replace hM := Lib.hid hM
          rw [HG.out] at j4
          simp [Region.binds] at haf
          have e18 := ((j4 18 (by simp [haf]))).trans E18.out
          replace j4 := Lib.hid j4
          clear haf hfb
          rw [HLIT.out]
          go_simp
          exact hK.out _ _ (RS.next (wv := wv) (vs := vs) 21 (x := undef) (by rw [HLIT.out]; simp only [upv, e18, Nat.reduceBEq, cond_true, cond_false]) (by rw [HG.out]; exact j4.out) hM.out (by rw [HG.out]; exact fun _ _ h => h) (by rw [HG.out]; exact E21.out.symm))
        · intro bf ac wv hfb haf hJ K' hK
          obtain ⟨vs, rfl, hM, j4⟩ := hJ
          replace hK := Lib.hid hK
          replace hM := Lib.hid hM
          rw [HG.out] at j4
          simp [Region.binds] at haf
          have e21 := ((j4 21 (by simp [haf]))).trans E21.out
          replace j4 := Lib.hid j4
          clear haf hfb
          rw [HLIT.out]
          go_simp
          exact hK.out _ _ (RS.next (wv := wv) (vs := vs) 22 (x := undef) (by rw [HLIT.out]; simp only [upv, e21, Nat.reduceBEq, cond_true, cond_false]) (by rw [HG.out]; exact j4.out) hM.out (by rw [HG.out]; exact fun _ _ h => h) (by rw [HG.out]; exact E22.out.symm))
        · intro bf ac wv hfb haf hJ K' hK
          obtain ⟨vs, rfl, hM, j4⟩ := hJ
          replace hK := Lib.hid hK
          replace hM := Lib.hid hM
          rw [HG.out] at j4
          simp [Region.binds] at haf
          have e21 := ((j4 21 (by simp [haf]))).trans E21.out
          replace j4 := Lib.hid j4
          clear haf hfb
          rw [HLIT.out]
          go_simp
          exact hK.out _ _ (RS.next (wv := wv) (vs := vs) 23 (x := undef) (by rw [HLIT.out]; simp only [upv, e21, Nat.reduceBEq, cond_true, cond_false]) (by rw [HG.out]; exact j4.out) hM.out (by rw [HG.out]; exact fun _ _ h => h) (by rw [HG.out]; exact E23.out.symm))
        · intro bf ac wv hfb haf hJ K' hK
          obtain ⟨vs, rfl, hM, j4⟩ := hJ
          replace hK := Lib.hid hK
          replace hM := Lib.hid hM
          rw [HG.out] at j4
          simp [Region.binds] at haf
          have e21 := ((j4 21 (by simp [haf]))).trans E21.out
          replace j4 := Lib.hid j4
          clear haf hfb
          rw [HLIT.out]
          go_simp
          exact hK.out _ _ (RS.next (wv := wv) (vs := vs) 24 (x := undef) (by rw [HLIT.out]; simp only [upv, e21, Nat.reduceBEq, cond_true, cond_false]) (by rw [HG.out]; exact j4.out) hM.out (by rw [HG.out]; exact fun _ _ h => h) (by rw [HG.out]; exact E24.out.symm))
        · intro bf ac wv hfb haf hJ K' hK
          obtain ⟨vs, rfl, hM, j4⟩ := hJ
          replace hK := Lib.hid hK
          replace hM := Lib.hid hM
          rw [HG.out] at j4
          simp [Region.binds] at haf
          have e21 := ((j4 21 (by simp [haf]))).trans E21.out
          replace j4 := Lib.hid j4
          clear haf hfb
          rw [HLIT.out]
          go_simp
          exact hK.out _ _ (RS.next (wv := wv) (vs := vs) 25 (x := undef) (by rw [HLIT.out]; simp only [upv, e21, Nat.reduceBEq, cond_true, cond_false]) (by rw [HG.out]; exact j4.out) hM.out (by rw [HG.out]; exact fun _ _ h => h) (by rw [HG.out]; exact E25.out.symm))
        · intro bf ac wv hfb haf hJ K' hK
          obtain ⟨vs, rfl, hM, j4⟩ := hJ
          replace hK := Lib.hid hK
          replace hM := Lib.hid hM
          rw [HG.out] at j4
          simp [Region.binds] at haf
          have e21 := ((j4 21 (by simp [haf]))).trans E21.out
          replace j4 := Lib.hid j4
          clear haf hfb
          rw [HLIT.out]
          go_simp
          exact hK.out _ _ (RS.next (wv := wv) (vs := vs) 26 (x := undef) (by rw [HLIT.out]; simp only [upv, e21, Nat.reduceBEq, cond_true, cond_false]) (by rw [HG.out]; exact j4.out) hM.out (by rw [HG.out]; exact fun _ _ h => h) (by rw [HG.out]; exact E26.out.symm))
        · intro bf ac wv hfb haf hJ K' hK
          obtain ⟨vs, rfl, hM, j4⟩ := hJ
          replace hK := Lib.hid hK
          replace hM := Lib.hid hM
          rw [HG.out] at j4
          simp [Region.binds] at haf
          have e21 := ((j4 21 (by simp [haf]))).trans E21.out
          replace j4 := Lib.hid j4
          clear haf hfb
          rw [HLIT.out]
          go_simp
          exact hK.out _ _ (RS.next (wv := wv) (vs := vs) 27 (x := undef) (by rw [HLIT.out]; simp only [upv, e21, Nat.reduceBEq, cond_true, cond_false]) (by rw [HG.out]; exact j4.out) hM.out (by rw [HG.out]; exact fun _ _ h => h) (by rw [HG.out]; exact E27.out.symm))
        · intro bf ac wv hfb haf hJ K' hK
          obtain ⟨vs, rfl, hM, j4⟩ := hJ
          replace hK := Lib.hid hK
          replace hM := Lib.hid hM
          rw [HG.out] at j4
          simp [Region.binds] at haf
          have e21 := ((j4 21 (by simp [haf]))).trans E21.out
          replace j4 := Lib.hid j4
          clear haf hfb
          rw [HLIT.out]
          go_simp
          exact hK.out _ _ (RS.next (wv := wv) (vs := vs) 28 (x := undef) (by rw [HLIT.out]; simp only [upv, e21, Nat.reduceBEq, cond_true, cond_false]) (by rw [HG.out]; exact j4.out) hM.out (by rw [HG.out]; exact fun _ _ h => h) (by rw [HG.out]; exact E28.out.symm))
        · intro bf ac wv hfb haf hJ K' hK
          obtain ⟨vs, rfl, hM, j4⟩ := hJ
          replace hK := Lib.hid hK
          replace hM := Lib.hid hM
          rw [HG.out] at j4
          simp [Region.binds] at haf
          have e21 := ((j4 21 (by simp [haf]))).trans E21.out
          replace j4 := Lib.hid j4
          clear haf hfb
          rw [HLIT.out]
          go_simp
          exact hK.out _ _ (RS.next (wv := wv) (vs := vs) 29 (x := undef) (by rw [HLIT.out]; simp only [upv, e21, Nat.reduceBEq, cond_true, cond_false]) (by rw [HG.out]; exact j4.out) hM.out (by rw [HG.out]; exact fun _ _ h => h) (by rw [HG.out]; exact E29.out.symm))
        · intro bf ac wv hfb haf hJ K' hK
          obtain ⟨vs, rfl, hM, j4⟩ := hJ
          replace hK := Lib.hid hK
          replace hM := Lib.hid hM
          rw [HG.out] at j4
          simp [Region.binds] at haf
          have e21 := ((j4 21 (by simp [haf]))).trans E21.out
          replace j4 := Lib.hid j4
          clear haf hfb
          rw [HLIT.out]
          go_simp
          exact hK.out _ _ (RS.next (wv := wv) (vs := vs) 30 (x := undef) (by rw [HLIT.out]; simp only [upv, e21, Nat.reduceBEq, cond_true, cond_false]) (by rw [HG.out]; exact j4.out) hM.out (by rw [HG.out]; exact fun _ _ h => h) (by rw [HG.out]; exact E30.out.symm))
        · intro bf ac wv hfb haf hJ K' hK
          obtain ⟨vs, rfl, hM, j4⟩ := hJ
          replace hK := Lib.hid hK
          replace hM := Lib.hid hM
          rw [HG.out] at j4
          simp [Region.binds] at haf
          have e21 := ((j4 21 (by simp [haf]))).trans E21.out
          replace j4 := Lib.hid j4
          clear haf hfb
          rw [HLIT.out]
          go_simp
          exact hK.out _ _ (RS.next (wv := wv) (vs := vs) 31 (x := undef) (by rw [HLIT.out]; simp only [upv, e21, Nat.reduceBEq, cond_true, cond_false]) (by rw [HG.out]; exact j4.out) hM.out (by rw [HG.out]; exact fun _ _ h => h) (by rw [HG.out]; exact E31.out.symm))
        · intro bf ac wv hfb haf hJ K' hK
          obtain ⟨vs, rfl, hM, j4⟩ := hJ
          replace hK := Lib.hid hK
          replace hM := Lib.hid hM
          rw [HG.out] at j4
          simp [Region.binds] at haf
          have e18 := ((j4 18 (by simp [haf]))).trans E18.out
          replace j4 := Lib.hid j4
          clear haf hfb
          rw [HLIT.out]
          go_simp
          exact hK.out _ _ (RS.next (wv := wv) (vs := vs) 32 (x := undef) (by rw [HLIT.out]; simp only [upv, e18, Nat.reduceBEq, cond_true, cond_false]) (by rw [HG.out]; exact j4.out) hM.out (by rw [HG.out]; exact fun _ _ h => h) (by rw [HG.out]; exact E32.out.symm))
        · intro bf ac wv hfb haf hJ K' hK
          obtain ⟨vs, rfl, hM, j4⟩ := hJ
          replace hK := Lib.hid hK
          replace hM := Lib.hid hM
          rw [HG.out] at j4
          simp [Region.binds] at haf
          have e18 := ((j4 18 (by simp [haf]))).trans E18.out
          replace j4 := Lib.hid j4
          clear haf hfb
          rw [HLIT.out]
          go_simp
          exact hK.out _ _ (RS.next (wv := wv) (vs := vs) 33 (x := .bool true) (by rw [HLIT.out]; simp only [upv, e18, Nat.reduceBEq, cond_true, cond_false]) (by rw [HG.out]; exact j4.out) hM.out (by rw [HG.out]; exact fun _ _ h => h) (by rw [HG.out]; exact E33.out.symm))
      · intro bf ac wv hall hJ
        obtain ⟨vs, rfl, hM, j4⟩ := hJ
        rw [HG.out] at j4
        have hlast := ((j4 33 (hall 33 (by decide)))).trans E33.out
        clear j4 hall
        rw [HLIT.out]
        dsimp only
        rw [hlast]
        clear hlast
        have HB9 := Lib.hid (HW.out.trans ((keep2 hM HBo.out).mono HW.out.size))
        go_wp2
        go_ret
        exact ⟨by rw [HE.out]; rfl, keep2 HB9.out HB0.out⟩
    have d3 : decide (xa < nx - 16) = false := decide_eq_false q2
    by_cases hk0 : k = 0
    · have d4 : decide ((k : Int) > 0) = false := by simp; omega
      have d5 : decide (0 < (k : Int)) = false := by simp; omega
      have d6 : decide (0 < k) = false := by simp; omega
      have HN2 := Lib.hid (show ∀ j, j < k + 1 → snA nx L j from fun j h => by
        by_cases e : j = k
        · subst e; exact HS.out.2 ⟨hok, by show lst nx L j ≤ xa; rw [hk0]; show nx - 16 ≤ xa; omega, by show xa < nx; omega⟩
        · exact HN.out j (by omega))
      clear HN HS hok hk0
      obtain ⟨lit, hlit⟩ : ∃ lit : (Nat → Value) → Act, lit = fun vs => { tmps := List.toArray (Value.agg #[Value.int IntKind.i64 nx, Value.slice (some { block := b1, off := o1 }) L.length sc] :: Value.pointer (some { block := w.heap.size, off := 0 }) :: u2 :: Value.int IntKind.i64 (k : Int) :: Value.pointer (some { block := wr.heap.size, off := 0 }) :: Value.pointer (some { block := w.heap.size, off := 0 }) :: Value.int IntKind.i64 nx :: Value.bool true :: Value.bool false :: Value.int IntKind.i64 (k : Int) :: Value.pointer (some { block := w.heap.size, off := 1 }) :: Value.slice (some { block := b1, off := o1 }) L.length sc :: Value.int IntKind.i64 (L.length : Int) :: Value.bool true :: u14 :: u15 :: Value.pointer (some { block := w.heap.size, off := 1 }) :: Value.slice (some { block := b1, off := o1 }) L.length sc :: Value.int IntKind.i64 (k : Int) :: Value.pointer (some { block := b1, off := o1 + k * 4 }) :: Value.agg #[Value.int IntKind.i64 xa, Value.int IntKind.i64 xb, Value.int IntKind.i64 xc, Value.int IntKind.i64 xd] :: vs 0 :: vs 1 :: vs 2 :: vs 3 :: vs 4 :: vs 5 :: vs 6 :: vs 7 :: vs 8 :: vs 9 :: vs 10 :: vs 11 :: vs 12 :: vs 13 :: vs 14 :: vs 15 :: vs 16 :: vs 17 :: vs 18 :: vs 19 :: vs 20 :: vs 21 :: vs 22 :: vs 23 :: vs 24 :: vs 25 :: vs 26 :: vs 27 :: vs 28 :: vs 29 :: vs 30 :: vs 31 :: vs 32 :: vs 33 :: []), defers := [] } := ⟨_, rfl⟩
      have HLIT := Lib.hid hlit
      clear hlit
      obtain ⟨val, hval⟩ : ∃ val : List Value, val = [.agg #[.int .i64 xa, .int .i64 xb, .int .i64 xc, .int .i64 xd], .bool true, .bool false, .bool false, .pointer (some ⟨wr.heap.size, 0, none⟩), .int .i64 xa, .pointer (some ⟨w.heap.size, 0, none⟩), .int .i64 nx, .bool false, .bool false, .bool false, .pointer (some ⟨wr.heap.size, 0, none⟩), .int .i64 xa, .pointer (some ⟨w.heap.size, 0, none⟩), .int .i64 nx, .int .i64 (nx - 16), .bool false, .bool false, .bool false, .int .i64 k, .bool false, .bool false, undef, undef, undef, undef, undef, undef, undef, undef, undef, undef, .bool false, .bool false] := ⟨_, rfl⟩
      have E0 := Lib.hid (show val.getD 0 undef = .agg #[.int .i64 xa, .int .i64 xb, .int .i64 xc, .int .i64 xd] by rw [hval]; rfl)
      have E1 := Lib.hid (show val.getD 1 undef = .bool true by rw [hval]; rfl)
      have E2 := Lib.hid (show val.getD 2 undef = .bool false by rw [hval]; rfl)
      have E3 := Lib.hid (show val.getD 3 undef = .bool false by rw [hval]; rfl)
      have E4 := Lib.hid (show val.getD 4 undef = .pointer (some ⟨wr.heap.size, 0, none⟩) by rw [hval]; rfl)
      have E5 := Lib.hid (show val.getD 5 undef = .int .i64 xa by rw [hval]; rfl)
      have E6 := Lib.hid (show val.getD 6 undef = .pointer (some ⟨w.heap.size, 0, none⟩) by rw [hval]; rfl)
      have E7 := Lib.hid (show val.getD 7 undef = .int .i64 nx by rw [hval]; rfl)
      have E8 := Lib.hid (show val.getD 8 undef = .bool false by rw [hval]; rfl)
      have E9 := Lib.hid (show val.getD 9 undef = .bool false by rw [hval]; rfl)
      have E10 := Lib.hid (show val.getD 10 undef = .bool false by rw [hval]; rfl)
      have E11 := Lib.hid (show val.getD 11 undef = .pointer (some ⟨wr.heap.size, 0, none⟩) by rw [hval]; rfl)
      have E12 := Lib.hid (show val.getD 12 undef = .int .i64 xa by rw [hval]; rfl)
      have E13 := Lib.hid (show val.getD 13 undef = .pointer (some ⟨w.heap.size, 0, none⟩) by rw [hval]; rfl)
      have E14 := Lib.hid (show val.getD 14 undef = .int .i64 nx by rw [hval]; rfl)
      have E15 := Lib.hid (show val.getD 15 undef = .int .i64 (nx - 16) by rw [hval]; rfl)
      have E16 := Lib.hid (show val.getD 16 undef = .bool false by rw [hval]; rfl)
      have E17 := Lib.hid (show val.getD 17 undef = .bool false by rw [hval]; rfl)
      have E18 := Lib.hid (show val.getD 18 undef = .bool false by rw [hval]; rfl)
      have E19 := Lib.hid (show val.getD 19 undef = .int .i64 k by rw [hval]; rfl)
      have E20 := Lib.hid (show val.getD 20 undef = .bool false by rw [hval]; rfl)
      have E21 := Lib.hid (show val.getD 21 undef = .bool false by rw [hval]; rfl)
      have E22 := Lib.hid (show val.getD 22 undef = undef by rw [hval]; rfl)
      have E23 := Lib.hid (show val.getD 23 undef = undef by rw [hval]; rfl)
      have E24 := Lib.hid (show val.getD 24 undef = undef by rw [hval]; rfl)
      have E25 := Lib.hid (show val.getD 25 undef = undef by rw [hval]; rfl)
      have E26 := Lib.hid (show val.getD 26 undef = undef by rw [hval]; rfl)
      have E27 := Lib.hid (show val.getD 27 undef = undef by rw [hval]; rfl)
      have E28 := Lib.hid (show val.getD 28 undef = undef by rw [hval]; rfl)
      have E29 := Lib.hid (show val.getD 29 undef = undef by rw [hval]; rfl)
      have E30 := Lib.hid (show val.getD 30 undef = undef by rw [hval]; rfl)
      have E31 := Lib.hid (show val.getD 31 undef = undef by rw [hval]; rfl)
      have E32 := Lib.hid (show val.getD 32 undef = .bool false by rw [hval]; rfl)
      have E33 := Lib.hid (show val.getD 33 undef = .bool false by rw [hval]; rfl)
      clear hval
      obtain ⟨G, hG0⟩ : ∃ G : Nat → Value → World → Prop, G = (fun i v w => (v = val.getD i undef)) := ⟨_, rfl⟩
      have HG := Lib.hid hG0
      clear hG0
      refine region_inv (RS lit wq G) (by kernel_rfl) (by decide +kernel) ?_ ?_ ?_
      · exact ⟨fun i => ([u21, u22, u23, u24, u25, u26, u27, u28, u29, u30, u31, u32, u33, u34, u35, u36, u37, u38, u39, u40, u41, u42, u43, u44, u45, u46, u47, u48, u49, u50, u51, u52, u53, u54] : List Value).getD i undef, (by rw [HLIT.out]; rfl), below_drew _ _, fun i h => by cases h⟩
      · refine ⟨?_, ?_, ?_, ?_, ?_, ?_, ?_, ?_, ?_, ?_, ?_, ?_, ?_, ?_, ?_, ?_, ?_, ?_, ?_, ?_, ?_, ?_, ?_, ?_, ?_, ?_, ?_, ?_, ?_, ?_, ?_, ?_, ?_, ?_, trivial⟩
        · intro bf ac wv hfb haf hJ K' hK
          obtain ⟨vs, rfl, hM, j4⟩ := hJ
          replace hK := Lib.hid hK
          replace hM := Lib.hid hM
          rw [HG.out] at j4
          replace j4 := Lib.hid j4
          clear haf hfb
          have xx0 := (HO.out.step hM.out).c 0 rfl
          have xx1 := (HO.out.step hM.out).c 1 rfl
          have xx2 := (HO.out.step hM.out).c 2 rfl
          have xx3 := (HO.out.step hM.out).c 3 rfl
          have xxz := (HO.out.step hM.out).2.2
          rw [HLIT.out]
          go_simp
          exact hK.out _ _ (RS.next (wv := wv) (vs := vs) 0 (x := .agg #[.int .i64 xa, .int .i64 xb, .int .i64 xc, .int .i64 xd]) (by rw [HLIT.out]; rfl) (by rw [HG.out]; exact j4.out) hM.out (by rw [HG.out]; exact fun _ _ h => h) (by rw [HG.out]; exact E0.out.symm))
        · intro bf ac wv hfb haf hJ K' hK
          obtain ⟨vs, rfl, hM, j4⟩ := hJ
          replace hK := Lib.hid hK
          replace hM := Lib.hid hM
          rw [HG.out] at j4
          simp [Region.binds] at haf
          have e0 := ((j4 0 (by simp [haf]))).trans E0.out
          replace j4 := Lib.hid j4
          clear haf hfb
          rw [HLIT.out]
          go_simp
          go_at_call 26
          refine (rorder_any xa xb xc xd true HOK.out _).mono ?_
          rintro e w4 ⟨rfl, b4⟩
          exact hK.out _ _ (RS.next (wv := wv) (vs := vs) 1 (x := .bool true) (by rw [HLIT.out]; simp only [upv, e0, Nat.reduceBEq, cond_true, cond_false]) (by rw [HG.out]; exact j4.out) (keep2 b4 hM.out) (by rw [HG.out]; exact fun _ _ h => h) (by rw [HG.out]; exact E1.out.symm))
        · intro bf ac wv hfb haf hJ K' hK
          obtain ⟨vs, rfl, hM, j4⟩ := hJ
          replace hK := Lib.hid hK
          replace hM := Lib.hid hM
          rw [HG.out] at j4
          simp [Region.binds] at haf
          have e1 := ((j4 1 (by simp [haf]))).trans E1.out
          replace j4 := Lib.hid j4
          clear haf hfb
          rw [HLIT.out]
          go_simp
          exact hK.out _ _ (RS.next (wv := wv) (vs := vs) 2 (x := .bool false) (by rw [HLIT.out]; simp only [upv, e1, Nat.reduceBEq, cond_true, cond_false]) (by rw [HG.out]; exact j4.out) hM.out (by rw [HG.out]; exact fun _ _ h => h) (by rw [HG.out]; exact E2.out.symm))
        · intro bf ac wv hfb haf hJ K' hK
          obtain ⟨vs, rfl, hM, j4⟩ := hJ
          replace hK := Lib.hid hK
          replace hM := Lib.hid hM
          rw [HG.out] at j4
          simp [Region.binds] at haf
          have e2 := ((j4 2 (by simp [haf]))).trans E2.out
          replace j4 := Lib.hid j4
          clear haf hfb
          rw [HLIT.out]
          go_simp
          exact hK.out _ _ (RS.next (wv := wv) (vs := vs) 3 (x := .bool false) (by rw [HLIT.out]; simp only [upv, e2, Nat.reduceBEq, cond_true, cond_false]) (by rw [HG.out]; exact j4.out) hM.out (by rw [HG.out]; exact fun _ _ h => h) (by rw [HG.out]; exact E3.out.symm))
        · intro bf ac wv hfb haf hJ K' hK
          obtain ⟨vs, rfl, hM, j4⟩ := hJ
          replace hK := Lib.hid hK
          replace hM := Lib.hid hM
          rw [HG.out] at j4
          simp [Region.binds] at haf
          have e3 := ((j4 3 (by simp [haf]))).trans E3.out
          replace j4 := Lib.hid j4
          clear haf hfb
          rw [HLIT.out]
          go_simp
          exact hK.out _ _ (RS.next (wv := wv) (vs := vs) 4 (x := .pointer (some ⟨wr.heap.size, 0, none⟩)) (by rw [HLIT.out]; simp only [upv, e3, Nat.reduceBEq, cond_true, cond_false]) (by rw [HG.out]; exact j4.out) hM.out (by rw [HG.out]; exact fun _ _ h => h) (by rw [HG.out]; exact E4.out.symm))
        · intro bf ac wv hfb haf hJ K' hK
          obtain ⟨vs, rfl, hM, j4⟩ := hJ
          replace hK := Lib.hid hK
          replace hM := Lib.hid hM
          rw [HG.out] at j4
          simp [Region.binds] at haf
          have e3 := ((j4 3 (by simp [haf]))).trans E3.out
          have e4 := ((j4 4 (by simp [haf]))).trans E4.out
          replace j4 := Lib.hid j4
          clear haf hfb
          have xx0 := (HO.out.step hM.out).c 0 rfl
          have xxz := (HO.out.step hM.out).2.2
          rw [HLIT.out]
          go_simp
          exact hK.out _ _ (RS.next (wv := wv) (vs := vs) 5 (x := .int .i64 xa) (by rw [HLIT.out]; simp only [upv, e3, e4, Nat.reduceBEq, cond_true, cond_false]) (by rw [HG.out]; exact j4.out) hM.out (by rw [HG.out]; exact fun _ _ h => h) (by rw [HG.out]; exact E5.out.symm))
        · intro bf ac wv hfb haf hJ K' hK
          obtain ⟨vs, rfl, hM, j4⟩ := hJ
          replace hK := Lib.hid hK
          replace hM := Lib.hid hM
          rw [HG.out] at j4
          simp [Region.binds] at haf
          have e3 := ((j4 3 (by simp [haf]))).trans E3.out
          replace j4 := Lib.hid j4
          clear haf hfb
          rw [HLIT.out]
          go_simp
          exact hK.out _ _ (RS.next (wv := wv) (vs := vs) 6 (x := .pointer (some ⟨w.heap.size, 0, none⟩)) (by rw [HLIT.out]; simp only [upv, e3, Nat.reduceBEq, cond_true, cond_false]) (by rw [HG.out]; exact j4.out) hM.out (by rw [HG.out]; exact fun _ _ h => h) (by rw [HG.out]; exact E6.out.symm))
        · intro bf ac wv hfb haf hJ K' hK
          obtain ⟨vs, rfl, hM, j4⟩ := hJ
          replace hK := Lib.hid hK
          replace hM := Lib.hid hM
          rw [HG.out] at j4
          simp [Region.binds] at haf
          have e3 := ((j4 3 (by simp [haf]))).trans E3.out
          have e6 := ((j4 6 (by simp [haf]))).trans E6.out
          replace j4 := Lib.hid j4
          clear haf hfb
          have xx0 := (HCq.out.step hM.out).c 0 rfl
          have xxz := (HCq.out.step hM.out).2.2
          rw [HLIT.out]
          go_simp
          exact hK.out _ _ (RS.next (wv := wv) (vs := vs) 7 (x := .int .i64 nx) (by rw [HLIT.out]; simp only [upv, e3, e6, Nat.reduceBEq, cond_true, cond_false]) (by rw [HG.out]; exact j4.out) hM.out (by rw [HG.out]; exact fun _ _ h => h) (by rw [HG.out]; exact E7.out.symm))
        · intro bf ac wv hfb haf hJ K' hK
          obtain ⟨vs, rfl, hM, j4⟩ := hJ
          replace hK := Lib.hid hK
          replace hM := Lib.hid hM
          rw [HG.out] at j4
          simp [Region.binds] at haf
          have e3 := ((j4 3 (by simp [haf]))).trans E3.out
          have e5 := ((j4 5 (by simp [haf]))).trans E5.out
          have e7 := ((j4 7 (by simp [haf]))).trans E7.out
          replace j4 := Lib.hid j4
          clear haf hfb
          rw [HLIT.out]
          go_simp
          exact hK.out _ _ (RS.next (wv := wv) (vs := vs) 8 (x := .bool false) (by rw [HLIT.out]; simp only [upv, e3, e5, e7, Nat.reduceBEq, cond_true, cond_false]) (by rw [HG.out]; exact j4.out) hM.out (by rw [HG.out]; exact fun _ _ h => h) (by rw [HG.out]; exact E8.out.symm))
        · intro bf ac wv hfb haf hJ K' hK
          obtain ⟨vs, rfl, hM, j4⟩ := hJ
          replace hK := Lib.hid hK
          replace hM := Lib.hid hM
          rw [HG.out] at j4
          simp [Region.binds] at haf
          have e3 := ((j4 3 (by simp [haf]))).trans E3.out
          have e8 := ((j4 8 (by simp [haf]))).trans E8.out
          replace j4 := Lib.hid j4
          clear haf hfb
          rw [HLIT.out]
          go_simp
          exact hK.out _ _ (RS.next (wv := wv) (vs := vs) 9 (x := .bool false) (by rw [HLIT.out]; simp only [upv, e3, e8, Nat.reduceBEq, cond_true, cond_false]) (by rw [HG.out]; exact j4.out) hM.out (by rw [HG.out]; exact fun _ _ h => h) (by rw [HG.out]; exact E9.out.symm))
        · intro bf ac wv hfb haf hJ K' hK
          obtain ⟨vs, rfl, hM, j4⟩ := hJ
          replace hK := Lib.hid hK
          replace hM := Lib.hid hM
          rw [HG.out] at j4
          simp [Region.binds] at haf
          have e9 := ((j4 9 (by simp [haf]))).trans E9.out
          replace j4 := Lib.hid j4
          clear haf hfb
          rw [HLIT.out]
          go_simp
          exact hK.out _ _ (RS.next (wv := wv) (vs := vs) 10 (x := .bool false) (by rw [HLIT.out]; simp only [upv, e9, Nat.reduceBEq, cond_true, cond_false]) (by rw [HG.out]; exact j4.out) hM.out (by rw [HG.out]; exact fun _ _ h => h) (by rw [HG.out]; exact E10.out.symm))
        · intro bf ac wv hfb haf hJ K' hK
          obtain ⟨vs, rfl, hM, j4⟩ := hJ
          replace hK := Lib.hid hK
          replace hM := Lib.hid hM
          rw [HG.out] at j4
          simp [Region.binds] at haf
          have e10 := ((j4 10 (by simp [haf]))).trans E10.out
          replace j4 := Lib.hid j4
          clear haf hfb
          rw [HLIT.out]
          go_simp
          exact hK.out _ _ (RS.next (wv := wv) (vs := vs) 11 (x := .pointer (some ⟨wr.heap.size, 0, none⟩)) (by rw [HLIT.out]; simp only [upv, e10, Nat.reduceBEq, cond_true, cond_false]) (by rw [HG.out]; exact j4.out) hM.out (by rw [HG.out]; exact fun _ _ h => h) (by rw [HG.out]; exact E11.out.symm))
        · intro bf ac wv hfb haf hJ K' hK
          obtain ⟨vs, rfl, hM, j4⟩ := hJ
          replace hK := Lib.hid hK
          replace hM := Lib.hid hM
          rw [HG.out] at j4
          simp [Region.binds] at haf
          have e10 := ((j4 10 (by simp [haf]))).trans E10.out
          have e11 := ((j4 11 (by simp [haf]))).trans E11.out
          replace j4 := Lib.hid j4
          clear haf hfb
          have xx0 := (HO.out.step hM.out).c 0 rfl
          have xxz := (HO.out.step hM.out).2.2
          rw [HLIT.out]
          go_simp
          exact hK.out _ _ (RS.next (wv := wv) (vs := vs) 12 (x := .int .i64 xa) (by rw [HLIT.out]; simp only [upv, e10, e11, Nat.reduceBEq, cond_true, cond_false]) (by rw [HG.out]; exact j4.out) hM.out (by rw [HG.out]; exact fun _ _ h => h) (by rw [HG.out]; exact E12.out.symm))
        · intro bf ac wv hfb haf hJ K' hK
          obtain ⟨vs, rfl, hM, j4⟩ := hJ
          replace hK := Lib.hid hK
          replace hM := Lib.hid hM
          rw [HG.out] at j4
          simp [Region.binds] at haf
          have e10 := ((j4 10 (by simp [haf]))).trans E10.out
          replace j4 := Lib.hid j4
          clear haf hfb
          rw [HLIT.out]
          go_simp
          exact hK.out _ _ (RS.next (wv := wv) (vs := vs) 13 (x := .pointer (some ⟨w.heap.size, 0, none⟩)) (by rw [HLIT.out]; simp only [upv, e10, Nat.reduceBEq, cond_true, cond_false]) (by rw [HG.out]; exact j4.out) hM.out (by rw [HG.out]; exact fun _ _ h => h) (by rw [HG.out]; exact E13.out.symm))
        · intro bf ac wv hfb haf hJ K' hK
          obtain ⟨vs, rfl, hM, j4⟩ := hJ
          replace hK := Lib.hid hK
          replace hM := Lib.hid hM
          rw [HG.out] at j4
          simp [Region.binds] at haf
          have e10 := ((j4 10 (by simp [haf]))).trans E10.out
          have e13 := ((j4 13 (by simp [haf]))).trans E13.out
          replace j4 := Lib.hid j4
          clear haf hfb
          have xx0 := (HCq.out.step hM.out).c 0 rfl
          have xxz := (HCq.out.step hM.out).2.2
          rw [HLIT.out]
          go_simp
          exact hK.out _ _ (RS.next (wv := wv) (vs := vs) 14 (x := .int .i64 nx) (by rw [HLIT.out]; simp only [upv, e10, e13, Nat.reduceBEq, cond_true, cond_false]) (by rw [HG.out]; exact j4.out) hM.out (by rw [HG.out]; exact fun _ _ h => h) (by rw [HG.out]; exact E14.out.symm))
        · intro bf ac wv hfb haf hJ K' hK
          obtain ⟨vs, rfl, hM, j4⟩ := hJ
          replace hK := Lib.hid hK
          replace hM := Lib.hid hM
          rw [HG.out] at j4
          simp [Region.binds] at haf
          have e10 := ((j4 10 (by simp [haf]))).trans E10.out
          have e14 := ((j4 14 (by simp [haf]))).trans E14.out
          replace j4 := Lib.hid j4
          clear haf hfb
          rw [HLIT.out]
          go_simp
          exact hK.out _ _ (RS.next (wv := wv) (vs := vs) 15 (x := .int .i64 (nx - 16)) (by rw [HLIT.out]; simp only [upv, e10, e14, HW16.out, Nat.reduceBEq, cond_true, cond_false]) (by rw [HG.out]; exact j4.out) hM.out (by rw [HG.out]; exact fun _ _ h => h) (by rw [HG.out]; exact E15.out.symm))
        · intro bf ac wv hfb haf hJ K' hK
          obtain ⟨vs, rfl, hM, j4⟩ := hJ
          replace hK := Lib.hid hK
          replace hM := Lib.hid hM
          rw [HG.out] at j4
          simp [Region.binds] at haf
          have e10 := ((j4 10 (by simp [haf]))).trans E10.out
          have e12 := ((j4 12 (by simp [haf]))).trans E12.out
          have e15 := ((j4 15 (by simp [haf]))).trans E15.out
          replace j4 := Lib.hid j4
          clear haf hfb
          rw [HLIT.out]
          go_simp
          exact hK.out _ _ (RS.next (wv := wv) (vs := vs) 16 (x := .bool false) (by rw [HLIT.out]; simp only [upv, e10, e12, e15, Nat.reduceBEq, cond_true, cond_false]) (by rw [HG.out]; exact j4.out) hM.out (by rw [HG.out]; exact fun _ _ h => h) (by rw [HG.out]; exact E16.out.symm))
        · intro bf ac wv hfb haf hJ K' hK
          obtain ⟨vs, rfl, hM, j4⟩ := hJ
          replace hK := Lib.hid hK
          replace hM := Lib.hid hM
          rw [HG.out] at j4
          simp [Region.binds] at haf
          have e10 := ((j4 10 (by simp [haf]))).trans E10.out
          have e16 := ((j4 16 (by simp [haf]))).trans E16.out
          replace j4 := Lib.hid j4
          clear haf hfb
          rw [HLIT.out]
          go_simp
          exact hK.out _ _ (RS.next (wv := wv) (vs := vs) 17 (x := .bool false) (by rw [HLIT.out]; simp only [upv, e10, e16, Nat.reduceBEq, cond_true, cond_false]) (by rw [HG.out]; exact j4.out) hM.out (by rw [HG.out]; exact fun _ _ h => h) (by rw [HG.out]; exact E17.out.symm))
        · intro bf ac wv hfb haf hJ K' hK
          obtain ⟨vs, rfl, hM, j4⟩ := hJ
          replace hK := Lib.hid hK
          replace hM := Lib.hid hM
          rw [HG.out] at j4
          simp [Region.binds] at haf
          have e17 := ((j4 17 (by simp [haf]))).trans E17.out
          replace j4 := Lib.hid j4
          clear haf hfb
          rw [HLIT.out]
          go_simp
          exact hK.out _ _ (RS.next (wv := wv) (vs := vs) 18 (x := .bool false) (by rw [HLIT.out]; simp only [upv, e17, Nat.reduceBEq, cond_true, cond_false]) (by rw [HG.out]; exact j4.out) hM.out (by rw [HG.out]; exact fun _ _ h => h) (by rw [HG.out]; exact E18.out.symm))
        · intro bf ac wv hfb haf hJ K' hK
          obtain ⟨vs, rfl, hM, j4⟩ := hJ
          replace hK := Lib.hid hK
          replace hM := Lib.hid hM
          rw [HG.out] at j4
          simp [Region.binds] at haf
          have e18 := ((j4 18 (by simp [haf]))).trans E18.out
          replace j4 := Lib.hid j4
          clear haf hfb
          rw [HLIT.out]
          go_simp
          exact hK.out _ _ (RS.next (wv := wv) (vs := vs) 19 (x := .int .i64 k) (by rw [HLIT.out]; simp only [upv, e18, Nat.reduceBEq, cond_true, cond_false]) (by rw [HG.out]; exact j4.out) hM.out (by rw [HG.out]; exact fun _ _ h => h) (by rw [HG.out]; exact E19.out.symm))
        · intro bf ac wv hfb haf hJ K' hK
          obtain ⟨vs, rfl, hM, j4⟩ := hJ
          replace hK := Lib.hid hK
          replace hM := Lib.hid hM
          rw [HG.out] at j4
          simp [Region.binds] at haf
          have e18 := ((j4 18 (by simp [haf]))).trans E18.out
          have e19 := ((j4 19 (by simp [haf]))).trans E19.out
          replace j4 := Lib.hid j4
          clear haf hfb
          rw [HLIT.out]
          go_simp
          exact hK.out _ _ (RS.next (wv := wv) (vs := vs) 20 (x := .bool false) (by rw [HLIT.out]; simp only [upv, e18, e19, Nat.reduceBEq, cond_true, cond_false]) (by rw [HG.out]; exact j4.out) hM.out (by rw [HG.out]; exact fun _ _ h => h) (by rw [HG.out]; exact E20.out.symm))
        · intro bf ac wv hfb haf hJ K' hK
          obtain ⟨vs, rfl, hM, j4⟩ := hJ
          replace hK := Lib.hid hK
          replace hM := Lib.hid hM
          rw [HG.out] at j4
          simp [Region.binds] at haf
          have e18 := ((j4 18 (by simp [haf]))).trans E18.out
          have e20 := ((j4 20 (by simp [haf]))).trans E20.out
          replace j4 := Lib.hid j4
          clear haf hfb
          rw [HLIT.out]
          go_simp
          exact hK.out _ _ (RS.next (wv := wv) (vs := vs) 21 (x := .bool false) (by rw [HLIT.out]; simp only [upv, e18, e20, Nat.reduceBEq, cond_true, cond_false]) (by rw [HG.out]; exact j4.out) hM.out (by rw [HG.out]; exact fun _ _ h => h) (by rw [HG.out]; exact E21.out.symm))
        · intro bf ac wv hfb haf hJ K' hK
          obtain ⟨vs, rfl, hM, j4⟩ := hJ
          replace hK := Lib.hid hK
          replace hM := Lib.hid hM
          rw [HG.out] at j4
          simp [Region.binds] at haf
          have e21 := ((j4 21 (by simp [haf]))).trans E21.out
          replace j4 := Lib.hid j4
          clear haf hfb
          rw [HLIT.out]
          go_simp
          exact hK.out _ _ (RS.next (wv := wv) (vs := vs) 22 (x := undef) (by rw [HLIT.out]; simp only [upv, e21, Nat.reduceBEq, cond_true, cond_false]) (by rw [HG.out]; exact j4.out) hM.out (by rw [HG.out]; exact fun _ _ h => h) (by rw [HG.out]; exact E22.out.symm))
        · intro bf ac wv hfb haf hJ K' hK
          obtain ⟨vs, rfl, hM, j4⟩ := hJ
          replace hK := Lib.hid hK
          replace hM := Lib.hid hM
          rw [HG.out] at j4
          simp [Region.binds] at haf
          have e21 := ((j4 21 (by simp [haf]))).trans E21.out
          replace j4 := Lib.hid j4
          clear haf hfb
          rw [HLIT.out]
          go_simp
          exact hK.out _ _ (RS.next (wv := wv) (vs := vs) 23 (x := undef) (by rw [HLIT.out]; simp only [upv, e21, Nat.reduceBEq, cond_true, cond_false]) (by rw [HG.out]; exact j4.out) hM.out (by rw [HG.out]; exact fun _ _ h => h) (by rw [HG.out]; exact E23.out.symm))
        · intro bf ac wv hfb haf hJ K' hK
          obtain ⟨vs, rfl, hM, j4⟩ := hJ
          replace hK := Lib.hid hK
          replace hM := Lib.hid hM
          rw [HG.out] at j4
          simp [Region.binds] at haf
          have e21 := ((j4 21 (by simp [haf]))).trans E21.out
          replace j4 := Lib.hid j4
          clear haf hfb
          rw [HLIT.out]
          go_simp
          exact hK.out _ _ (RS.next (wv := wv) (vs := vs) 24 (x := undef) (by rw [HLIT.out]; simp only [upv, e21, Nat.reduceBEq, cond_true, cond_false]) (by rw [HG.out]; exact j4.out) hM.out (by rw [HG.out]; exact fun _ _ h => h) (by rw [HG.out]; exact E24.out.symm))
        · intro bf ac wv hfb haf hJ K' hK
          obtain ⟨vs, rfl, hM, j4⟩ := hJ
          replace hK := Lib.hid hK
          replace hM := Lib.hid hM
          rw [HG.out] at j4
          simp [Region.binds] at haf
          have e21 := ((j4 21 (by simp [haf]))).trans E21.out
          replace j4 := Lib.hid j4
          clear haf hfb
          rw [HLIT.out]
          go_simp
          exact hK.out _ _ (RS.next (wv := wv) (vs := vs) 25 (x := undef) (by rw [HLIT.out]; simp only [upv, e21, Nat.reduceBEq, cond_true, cond_false]) (by rw [HG.out]; exact j4.out) hM.out (by rw [HG.out]; exact fun _ _ h => h) (by rw [HG.out]; exact E25.out.symm))
        · intro bf ac wv hfb haf hJ K' hK
          obtain ⟨vs, rfl, hM, j4⟩ := hJ
          replace hK := Lib.hid hK
          replace hM := Lib.hid hM
          rw [HG.out] at j4
          simp [Region.binds] at haf
          have e21 := ((j4 21 (by simp [haf]))).trans E21.out
          replace j4 := Lib.hid j4
          clear haf hfb
          rw [HLIT.out]
          go_simp
          exact hK.out _ _ (RS.next (wv := wv) (vs := vs) 26 (x := undef) (by rw [HLIT.out]; simp only [upv, e21, Nat.reduceBEq, cond_true, cond_false]) (by rw [HG.out]; exact j4.out) hM.out (by rw [HG.out]; exact fun _ _ h => h) (by rw [HG.out]; exact E26.out.symm))
        · intro bf ac wv hfb haf hJ K' hK
          obtain ⟨vs, rfl, hM, j4⟩ := hJ
          replace hK := Lib.hid hK
          replace hM := Lib.hid hM
          rw [HG.out] at j4
          simp [Region.binds] at haf
          have e21 := ((j4 21 (by simp [haf]))).trans E21.out
          replace j4 := Lib.hid j4
          clear haf hfb
          rw [HLIT.out]
          go_simp
          exact hK.out _ _ (RS.next (wv := wv) (vs := vs) 27 (x := undef) (by rw [HLIT.out]; simp only [upv, e21, Nat.reduceBEq, cond_true, cond_false]) (by rw [HG.out]; exact j4.out) hM.out (by rw [HG.out]; exact fun _ _ h => h) (by rw [HG.out]; exact E27.out.symm))
        · intro bf ac wv hfb haf hJ K' hK
          obtain ⟨vs, rfl, hM, j4⟩ := hJ
          replace hK := Lib.hid hK
          replace hM := Lib.hid hM
          rw [HG.out] at j4
          simp [Region.binds] at haf
          have e21 := ((j4 21 (by simp [haf]))).trans E21.out
          replace j4 := Lib.hid j4
          clear haf hfb
          rw [HLIT.out]
          go_simp
          exact hK.out _ _ (RS.next (wv := wv) (vs := vs) 28 (x := undef) (by rw [HLIT.out]; simp only [upv, e21, Nat.reduceBEq, cond_true, cond_false]) (by rw [HG.out]; exact j4.out) hM.out (by rw [HG.out]; exact fun _ _ h => h) (by rw [HG.out]; exact E28.out.symm))
        · intro bf ac wv hfb haf hJ K' hK
          obtain ⟨vs, rfl, hM, j4⟩ := hJ
          replace hK := Lib.hid hK
          replace hM := Lib.hid hM
          rw [HG.out] at j4
          simp [Region.binds] at haf
          have e21 := ((j4 21 (by simp [haf]))).trans E21.out
          replace j4 := Lib.hid j4
          clear haf hfb
          rw [HLIT.out]
          go_simp
          exact hK.out _ _ (RS.next (wv := wv) (vs := vs) 29 (x := undef) (by rw [HLIT.out]; simp only [upv, e21, Nat.reduceBEq, cond_true, cond_false]) (by rw [HG.out]; exact j4.out) hM.out (by rw [HG.out]; exact fun _ _ h => h) (by rw [HG.out]; exact E29.out.symm))
        · intro bf ac wv hfb haf hJ K' hK
          obtain ⟨vs, rfl, hM, j4⟩ := hJ
          replace hK := Lib.hid hK
          replace hM := Lib.hid hM
          rw [HG.out] at j4
          simp [Region.binds] at haf
          have e21 := ((j4 21 (by simp [haf]))).trans E21.out
          replace j4 := Lib.hid j4
          clear haf hfb
          rw [HLIT.out]
          go_simp
          exact hK.out _ _ (RS.next (wv := wv) (vs := vs) 30 (x := undef) (by rw [HLIT.out]; simp only [upv, e21, Nat.reduceBEq, cond_true, cond_false]) (by rw [HG.out]; exact j4.out) hM.out (by rw [HG.out]; exact fun _ _ h => h) (by rw [HG.out]; exact E30.out.symm))
        · intro bf ac wv hfb haf hJ K' hK
          obtain ⟨vs, rfl, hM, j4⟩ := hJ
          replace hK := Lib.hid hK
          replace hM := Lib.hid hM
          rw [HG.out] at j4
          simp [Region.binds] at haf
          have e21 := ((j4 21 (by simp [haf]))).trans E21.out
          replace j4 := Lib.hid j4
          clear haf hfb
          rw [HLIT.out]
          go_simp
          exact hK.out _ _ (RS.next (wv := wv) (vs := vs) 31 (x := undef) (by rw [HLIT.out]; simp only [upv, e21, Nat.reduceBEq, cond_true, cond_false]) (by rw [HG.out]; exact j4.out) hM.out (by rw [HG.out]; exact fun _ _ h => h) (by rw [HG.out]; exact E31.out.symm))
        · intro bf ac wv hfb haf hJ K' hK
          obtain ⟨vs, rfl, hM, j4⟩ := hJ
          replace hK := Lib.hid hK
          replace hM := Lib.hid hM
          rw [HG.out] at j4
          simp [Region.binds] at haf
          have e18 := ((j4 18 (by simp [haf]))).trans E18.out
          have e21 := ((j4 21 (by simp [haf]))).trans E21.out
          replace j4 := Lib.hid j4
          clear haf hfb
          rw [HLIT.out]
          go_simp
          exact hK.out _ _ (RS.next (wv := wv) (vs := vs) 32 (x := .bool false) (by rw [HLIT.out]; simp only [upv, e18, e21, Nat.reduceBEq, cond_true, cond_false]) (by rw [HG.out]; exact j4.out) hM.out (by rw [HG.out]; exact fun _ _ h => h) (by rw [HG.out]; exact E32.out.symm))
        · intro bf ac wv hfb haf hJ K' hK
          obtain ⟨vs, rfl, hM, j4⟩ := hJ
          replace hK := Lib.hid hK
          replace hM := Lib.hid hM
          rw [HG.out] at j4
          simp [Region.binds] at haf
          have e18 := ((j4 18 (by simp [haf]))).trans E18.out
          have e32 := ((j4 32 (by simp [haf]))).trans E32.out
          replace j4 := Lib.hid j4
          clear haf hfb
          rw [HLIT.out]
          go_simp
          exact hK.out _ _ (RS.next (wv := wv) (vs := vs) 33 (x := .bool false) (by rw [HLIT.out]; simp only [upv, e18, e32, Nat.reduceBEq, cond_true, cond_false]) (by rw [HG.out]; exact j4.out) hM.out (by rw [HG.out]; exact fun _ _ h => h) (by rw [HG.out]; exact E33.out.symm))
      · intro bf ac wv hall hJ
        obtain ⟨vs, rfl, hM, j4⟩ := hJ
        rw [HG.out] at j4
        have hlast := ((j4 33 (hall 33 (by decide)))).trans E33.out
        clear j4 hall
        rw [HLIT.out]
        dsimp only
        rw [hlast]
        clear hlast
        have HB9 := Lib.hid (HW.out.trans ((keep2 hM HBo.out).mono HW.out.size))
        go_wp2
        go_roundw
        case rel => exact ⟨k + 1, hlt, by go_num, HN2, HB9⟩
        case measure => simp [intOf]; omega
    obtain ⟨m, hmk⟩ : ∃ m, k = m + 1 := ⟨k - 1, by omega⟩
    have HML := Lib.hid (show (m : Int) < (L.length : Int) by omega)
    have HWK := Lib.hid (show IntKind.i64.wrap ((k : Int) - 1) = (m : Int) by rw [IntWalk.i64_in _ (by omega)]; omega)
    have d4 : decide ((k : Int) > 0) = true := by simp; omega
    have d5 : decide (0 < (k : Int)) = true := by simp; omega
    have d6 : decide (0 < k) = true := by simp; omega
    obtain ⟨pa, hpa⟩ : ∃ z, (L.getD m zO).a = z := ⟨_, rfl⟩
    have HPA := Lib.hid (show ∀ wv : World, Below wq.heap.size wq wv → wv.cell? ⟨b1, o1 + m * 4, none⟩ = some (.int .i64 pa) from fun wv hb => by
      have h9 := (HX1.out m _ (od_get (show m < L.length by omega))).1
      rw [hpa] at h9
      exact keep1 (keep2 hb HBo.out) h9)
    have HLS := Lib.hid (show lst nx L k = pa + 1 by rw [hmk, ← hpa]; rfl)
    by_cases q3 : xa ≤ pa
    · have d7 : decide (pa ≥ xa) = true := by simpa using q3
      have d8 : decide (xa ≤ pa) = true := decide_eq_true q3
      have HE := Lib.hid (show r = false by
        rw [Bool.eq_false_iff]
        intro e
        have h9 := HS.out.1 ((HR.out.1 e).2 k hlt)
        have h10 : lst nx L k ≤ xa := h9.2.1; rw [HLS.out] at h10; omega)
      clear HN HS hok hmk hpa
      obtain ⟨lit, hlit⟩ : ∃ lit : (Nat → Value) → Act, lit = fun vs => { tmps := List.toArray (Value.agg #[Value.int IntKind.i64 nx, Value.slice (some { block := b1, off := o1 }) L.length sc] :: Value.pointer (some { block := w.heap.size, off := 0 }) :: u2 :: Value.int IntKind.i64 (k : Int) :: Value.pointer (some { block := wr.heap.size, off := 0 }) :: Value.pointer (some { block := w.heap.size, off := 0 }) :: Value.int IntKind.i64 nx :: Value.bool true :: Value.bool false :: Value.int IntKind.i64 (k : Int) :: Value.pointer (some { block := w.heap.size, off := 1 }) :: Value.slice (some { block := b1, off := o1 }) L.length sc :: Value.int IntKind.i64 (L.length : Int) :: Value.bool true :: u14 :: u15 :: Value.pointer (some { block := w.heap.size, off := 1 }) :: Value.slice (some { block := b1, off := o1 }) L.length sc :: Value.int IntKind.i64 (k : Int) :: Value.pointer (some { block := b1, off := o1 + k * 4 }) :: Value.agg #[Value.int IntKind.i64 xa, Value.int IntKind.i64 xb, Value.int IntKind.i64 xc, Value.int IntKind.i64 xd] :: vs 0 :: vs 1 :: vs 2 :: vs 3 :: vs 4 :: vs 5 :: vs 6 :: vs 7 :: vs 8 :: vs 9 :: vs 10 :: vs 11 :: vs 12 :: vs 13 :: vs 14 :: vs 15 :: vs 16 :: vs 17 :: vs 18 :: vs 19 :: vs 20 :: vs 21 :: vs 22 :: vs 23 :: vs 24 :: vs 25 :: vs 26 :: vs 27 :: vs 28 :: vs 29 :: vs 30 :: vs 31 :: vs 32 :: vs 33 :: []), defers := [] } := ⟨_, rfl⟩
      have HLIT := Lib.hid hlit
      clear hlit
      obtain ⟨val, hval⟩ : ∃ val : List Value, val = [.agg #[.int .i64 xa, .int .i64 xb, .int .i64 xc, .int .i64 xd], .bool true, .bool false, .bool false, .pointer (some ⟨wr.heap.size, 0, none⟩), .int .i64 xa, .pointer (some ⟨w.heap.size, 0, none⟩), .int .i64 nx, .bool false, .bool false, .bool false, .pointer (some ⟨wr.heap.size, 0, none⟩), .int .i64 xa, .pointer (some ⟨w.heap.size, 0, none⟩), .int .i64 nx, .int .i64 (nx - 16), .bool false, .bool false, .bool false, .int .i64 k, .bool true, .bool true, .pointer (some ⟨w.heap.size, 1, none⟩), .slice (some ⟨b1, o1, none⟩) L.length sc, .int .i64 k, .int .i64 m, .pointer (some ⟨b1, o1 + m * 4, none⟩), .pointer (some ⟨b1, o1 + m * 4, none⟩), .int .i64 pa, .pointer (some ⟨wr.heap.size, 0, none⟩), .int .i64 xa, .bool true, .bool true, .bool true] := ⟨_, rfl⟩
      have E0 := Lib.hid (show val.getD 0 undef = .agg #[.int .i64 xa, .int .i64 xb, .int .i64 xc, .int .i64 xd] by rw [hval]; rfl)
      have E1 := Lib.hid (show val.getD 1 undef = .bool true by rw [hval]; rfl)
      have E2 := Lib.hid (show val.getD 2 undef = .bool false by rw [hval]; rfl)
      have E3 := Lib.hid (show val.getD 3 undef = .bool false by rw [hval]; rfl)
      have E4 := Lib.hid (show val.getD 4 undef = .pointer (some ⟨wr.heap.size, 0, none⟩) by rw [hval]; rfl)
      have E5 := Lib.hid (show val.getD 5 undef = .int .i64 xa by rw [hval]; rfl)
      have E6 := Lib.hid (show val.getD 6 undef = .pointer (some ⟨w.heap.size, 0, none⟩) by rw [hval]; rfl)
      have E7 := Lib.hid (show val.getD 7 undef = .int .i64 nx by rw [hval]; rfl)
      have E8 := Lib.hid (show val.getD 8 undef = .bool false by rw [hval]; rfl)
      have E9 := Lib.hid (show val.getD 9 undef = .bool false by rw [hval]; rfl)
      have E10 := Lib.hid (show val.getD 10 undef = .bool false by rw [hval]; rfl)
      have E11 := Lib.hid (show val.getD 11 undef = .pointer (some ⟨wr.heap.size, 0, none⟩) by rw [hval]; rfl)
      have E12 := Lib.hid (show val.getD 12 undef = .int .i64 xa by rw [hval]; rfl)
      have E13 := Lib.hid (show val.getD 13 undef = .pointer (some ⟨w.heap.size, 0, none⟩) by rw [hval]; rfl)
      have E14 := Lib.hid (show val.getD 14 undef = .int .i64 nx by rw [hval]; rfl)
      have E15 := Lib.hid (show val.getD 15 undef = .int .i64 (nx - 16) by rw [hval]; rfl)
      have E16 := Lib.hid (show val.getD 16 undef = .bool false by rw [hval]; rfl)
      have E17 := Lib.hid (show val.getD 17 undef = .bool false by rw [hval]; rfl)
      have E18 := Lib.hid (show val.getD 18 undef = .bool false by rw [hval]; rfl)
      have E19 := Lib.hid (show val.getD 19 undef = .int .i64 k by rw [hval]; rfl)
      have E20 := Lib.hid (show val.getD 20 undef = .bool true by rw [hval]; rfl)
      have E21 := Lib.hid (show val.getD 21 undef = .bool true by rw [hval]; rfl)
      have E22 := Lib.hid (show val.getD 22 undef = .pointer (some ⟨w.heap.size, 1, none⟩) by rw [hval]; rfl)
      have E23 := Lib.hid (show val.getD 23 undef = .slice (some ⟨b1, o1, none⟩) L.length sc by rw [hval]; rfl)
      have E24 := Lib.hid (show val.getD 24 undef = .int .i64 k by rw [hval]; rfl)
      have E25 := Lib.hid (show val.getD 25 undef = .int .i64 m by rw [hval]; rfl)
      have E26 := Lib.hid (show val.getD 26 undef = .pointer (some ⟨b1, o1 + m * 4, none⟩) by rw [hval]; rfl)
      have E27 := Lib.hid (show val.getD 27 undef = .pointer (some ⟨b1, o1 + m * 4, none⟩) by rw [hval]; rfl)
      have E28 := Lib.hid (show val.getD 28 undef = .int .i64 pa by rw [hval]; rfl)
      have E29 := Lib.hid (show val.getD 29 undef = .pointer (some ⟨wr.heap.size, 0, none⟩) by rw [hval]; rfl)
      have E30 := Lib.hid (show val.getD 30 undef = .int .i64 xa by rw [hval]; rfl)
      have E31 := Lib.hid (show val.getD 31 undef = .bool true by rw [hval]; rfl)
      have E32 := Lib.hid (show val.getD 32 undef = .bool true by rw [hval]; rfl)
      have E33 := Lib.hid (show val.getD 33 undef = .bool true by rw [hval]; rfl)
      clear hval
      obtain ⟨G, hG0⟩ : ∃ G : Nat → Value → World → Prop, G = (fun i v w => (v = val.getD i undef)) := ⟨_, rfl⟩
      have HG := Lib.hid hG0
      clear hG0
      refine region_inv (RS lit wq G) (by kernel_rfl) (by decide +kernel) ?_ ?_ ?_
      · exact ⟨fun i => ([u21, u22, u23, u24, u25, u26, u27, u28, u29, u30, u31, u32, u33, u34, u35, u36, u37, u38, u39, u40, u41, u42, u43, u44, u45, u46, u47, u48, u49, u50, u51, u52, u53, u54] : List Value).getD i undef, (by rw [HLIT.out]; rfl), below_drew _ _, fun i h => by cases h⟩
      · refine ⟨?_, ?_, ?_, ?_, ?_, ?_, ?_, ?_, ?_, ?_, ?_, ?_, ?_, ?_, ?_, ?_, ?_, ?_, ?_, ?_, ?_, ?_, ?_, ?_, ?_, ?_, ?_, ?_, ?_, ?_, ?_, ?_, ?_, ?_, trivial⟩
        · intro bf ac wv hfb haf hJ K' hK
          obtain ⟨vs, rfl, hM, j4⟩ := hJ
          replace hK := Lib.hid hK
          replace hM := Lib.hid hM
          rw [HG.out] at j4
          replace j4 := Lib.hid j4
          clear haf hfb
          have xx0 := (HO.out.step hM.out).c 0 rfl
          have xx1 := (HO.out.step hM.out).c 1 rfl
          have xx2 := (HO.out.step hM.out).c 2 rfl
          have xx3 := (HO.out.step hM.out).c 3 rfl
          have xxz := (HO.out.step hM.out).2.2
          rw [HLIT.out]
          go_simp
          exact hK.out _ _ (RS.next (wv := wv) (vs := vs) 0 (x := .agg #[.int .i64 xa, .int .i64 xb, .int .i64 xc, .int .i64 xd]) (by rw [HLIT.out]; rfl) (by rw [HG.out]; exact j4.out) hM.out (by rw [HG.out]; exact fun _ _ h => h) (by rw [HG.out]; exact E0.out.symm))
        · intro bf ac wv hfb haf hJ K' hK
          obtain ⟨vs, rfl, hM, j4⟩ := hJ
          replace hK := Lib.hid hK
          replace hM := Lib.hid hM
          rw [HG.out] at j4
          simp [Region.binds] at haf
          have e0 := ((j4 0 (by simp [haf]))).trans E0.out
          replace j4 := Lib.hid j4
          clear haf hfb
          rw [HLIT.out]
          go_simp
          go_at_call 26
          refine (rorder_any xa xb xc xd true HOK.out _).mono ?_
          rintro e w4 ⟨rfl, b4⟩
          exact hK.out _ _ (RS.next (wv := wv) (vs := vs) 1 (x := .bool true) (by rw [HLIT.out]; simp only [upv, e0, Nat.reduceBEq, cond_true, cond_false]) (by rw [HG.out]; exact j4.out) (keep2 b4 hM.out) (by rw [HG.out]; exact fun _ _ h => h) (by rw [HG.out]; exact E1.out.symm))
        · intro bf ac wv hfb haf hJ K' hK
          obtain ⟨vs, rfl, hM, j4⟩ := hJ
          replace hK := Lib.hid hK
          replace hM := Lib.hid hM
          rw [HG.out] at j4
          simp [Region.binds] at haf
          have e1 := ((j4 1 (by simp [haf]))).trans E1.out
          replace j4 := Lib.hid j4
          clear haf hfb
          rw [HLIT.out]
          go_simp
          exact hK.out _ _ (RS.next (wv := wv) (vs := vs) 2 (x := .bool false) (by rw [HLIT.out]; simp only [upv, e1, Nat.reduceBEq, cond_true, cond_false]) (by rw [HG.out]; exact j4.out) hM.out (by rw [HG.out]; exact fun _ _ h => h) (by rw [HG.out]; exact E2.out.symm))
        · intro bf ac wv hfb haf hJ K' hK
          obtain ⟨vs, rfl, hM, j4⟩ := hJ
          replace hK := Lib.hid hK
          replace hM := Lib.hid hM
          rw [HG.out] at j4
          simp [Region.binds] at haf
          have e2 := ((j4 2 (by simp [haf]))).trans E2.out
          replace j4 := Lib.hid j4
          clear haf hfb
          rw [HLIT.out]
          go_simp
          exact hK.out _ _ (RS.next (wv := wv) (vs := vs) 3 (x := .bool false) (by rw [HLIT.out]; simp only [upv, e2, Nat.reduceBEq, cond_true, cond_false]) (by rw [HG.out]; exact j4.out) hM.out (by rw [HG.out]; exact fun _ _ h => h) (by rw [HG.out]; exact E3.out.symm))
        · intro bf ac wv hfb haf hJ K' hK
          obtain ⟨vs, rfl, hM, j4⟩ := hJ
          replace hK := Lib.hid hK
          replace hM := Lib.hid hM
          rw [HG.out] at j4
          simp [Region.binds] at haf
          have e3 := ((j4 3 (by simp [haf]))).trans E3.out
          replace j4 := Lib.hid j4
          clear haf hfb
          rw [HLIT.out]
          go_simp
          exact hK.out _ _ (RS.next (wv := wv) (vs := vs) 4 (x := .pointer (some ⟨wr.heap.size, 0, none⟩)) (by rw [HLIT.out]; simp only [upv, e3, Nat.reduceBEq, cond_true, cond_false]) (by rw [HG.out]; exact j4.out) hM.out (by rw [HG.out]; exact fun _ _ h => h) (by rw [HG.out]; exact E4.out.symm))
        · intro bf ac wv hfb haf hJ K' hK
          obtain ⟨vs, rfl, hM, j4⟩ := hJ
          replace hK := Lib.hid hK
          replace hM := Lib.hid hM
          rw [HG.out] at j4
          simp [Region.binds] at haf
          have e3 := ((j4 3 (by simp [haf]))).trans E3.out
          have e4 := ((j4 4 (by simp [haf]))).trans E4.out
          replace j4 := Lib.hid j4
          clear haf hfb
          have xx0 := (HO.out.step hM.out).c 0 rfl
          have xxz := (HO.out.step hM.out).2.2
          rw [HLIT.out]
          go_simp
          exact hK.out _ _ (RS.next (wv := wv) (vs := vs) 5 (x := .int .i64 xa) (by rw [HLIT.out]; simp only [upv, e3, e4, Nat.reduceBEq, cond_true, cond_false]) (by rw [HG.out]; exact j4.out) hM.out (by rw [HG.out]; exact fun _ _ h => h) (by rw [HG.out]; exact E5.out.symm))
        · intro bf ac wv hfb haf hJ K' hK
          obtain ⟨vs, rfl, hM, j4⟩ := hJ
          replace hK := Lib.hid hK
          replace hM := Lib.hid hM
          rw [HG.out] at j4
          simp [Region.binds] at haf
          have e3 := ((j4 3 (by simp [haf]))).trans E3.out
          replace j4 := Lib.hid j4
          clear haf hfb
          rw [HLIT.out]
          go_simp
          exact hK.out _ _ (RS.next (wv := wv) (vs := vs) 6 (x := .pointer (some ⟨w.heap.size, 0, none⟩)) (by rw [HLIT.out]; simp only [upv, e3, Nat.reduceBEq, cond_true, cond_false]) (by rw [HG.out]; exact j4.out) hM.out (by rw [HG.out]; exact fun _ _ h => h) (by rw [HG.out]; exact E6.out.symm))
        · intro bf ac wv hfb haf hJ K' hK
          obtain ⟨vs, rfl, hM, j4⟩ := hJ
          replace hK := Lib.hid hK
          replace hM := Lib.hid hM
          rw [HG.out] at j4
          simp [Region.binds] at haf
          have e3 := ((j4 3 (by simp [haf]))).trans E3.out
          have e6 := ((j4 6 (by simp [haf]))).trans E6.out
          replace j4 := Lib.hid j4
          clear haf hfb
          have xx0 := (HCq.out.step hM.out).c 0 rfl
          have xxz := (HCq.out.step hM.out).2.2
          rw [HLIT.out]
          go_simp
          exact hK.out _ _ (RS.next (wv := wv) (vs := vs) 7 (x := .int .i64 nx) (by rw [HLIT.out]; simp only [upv, e3, e6, Nat.reduceBEq, cond_true, cond_false]) (by rw [HG.out]; exact j4.out) hM.out (by rw [HG.out]; exact fun _ _ h => h) (by rw [HG.out]; exact E7.out.symm))
        · intro bf ac wv hfb haf hJ K' hK
          obtain ⟨vs, rfl, hM, j4⟩ := hJ
          replace hK := Lib.hid hK
          replace hM := Lib.hid hM
          rw [HG.out] at j4
          simp [Region.binds] at haf
          have e3 := ((j4 3 (by simp [haf]))).trans E3.out
          have e5 := ((j4 5 (by simp [haf]))).trans E5.out
          have e7 := ((j4 7 (by simp [haf]))).trans E7.out
          replace j4 := Lib.hid j4
          clear haf hfb
          rw [HLIT.out]
          go_simp
          exact hK.out _ _ (RS.next (wv := wv) (vs := vs) 8 (x := .bool false) (by rw [HLIT.out]; simp only [upv, e3, e5, e7, Nat.reduceBEq, cond_true, cond_false]) (by rw [HG.out]; exact j4.out) hM.out (by rw [HG.out]; exact fun _ _ h => h) (by rw [HG.out]; exact E8.out.symm))
        · intro bf ac wv hfb haf hJ K' hK
          obtain ⟨vs, rfl, hM, j4⟩ := hJ
          replace hK := Lib.hid hK
          replace hM := Lib.hid hM
          rw [HG.out] at j4
          simp [Region.binds] at haf
          have e3 := ((j4 3 (by simp [haf]))).trans E3.out
          have e8 := ((j4 8 (by simp [haf]))).trans E8.out
          replace j4 := Lib.hid j4
          clear haf hfb
          rw [HLIT.out]
          go_simp
          exact hK.out _ _ (RS.next (wv := wv) (vs := vs) 9 (x := .bool false) (by rw [HLIT.out]; simp only [upv, e3, e8, Nat.reduceBEq, cond_true, cond_false]) (by rw [HG.out]; exact j4.out) hM.out (by rw [HG.out]; exact fun _ _ h => h) (by rw [HG.out]; exact E9.out.symm))
        · intro bf ac wv hfb haf hJ K' hK
          obtain ⟨vs, rfl, hM, j4⟩ := hJ
          replace hK := Lib.hid hK
          replace hM := Lib.hid hM
          rw [HG.out] at j4
          simp [Region.binds] at haf
          have e9 := ((j4 9 (by simp [haf]))).trans E9.out
          replace j4 := Lib.hid j4
          clear haf hfb
          rw [HLIT.out]
          go_simp
          exact hK.out _ _ (RS.next (wv := wv) (vs := vs) 10 (x := .bool false) (by rw [HLIT.out]; simp only [upv, e9, Nat.reduceBEq, cond_true, cond_false]) (by rw [HG.out]; exact j4.out) hM.out (by rw [HG.out]; exact fun _ _ h => h) (by rw [HG.out]; exact E10.out.symm))
        · intro bf ac wv hfb haf hJ K' hK
          obtain ⟨vs, rfl, hM, j4⟩ := hJ
          replace hK := Lib.hid hK
          replace hM := Lib.hid hM
          rw [HG.out] at j4
          simp [Region.binds] at haf
          have e10 := ((j4 10 (by simp [haf]))).trans E10.out
          replace j4 := Lib.hid j4
          clear haf hfb
          rw [HLIT.out]
          go_simp
          exact hK.out _ _ (RS.next (wv := wv) (vs := vs) 11 (x := .pointer (some ⟨wr.heap.size, 0, none⟩)) (by rw [HLIT.out]; simp only [upv, e10, Nat.reduceBEq, cond_true, cond_false]) (by rw [HG.out]; exact j4.out) hM.out (by rw [HG.out]; exact fun _ _ h => h) (by rw [HG.out]; exact E11.out.symm))
        · intro bf ac wv hfb haf hJ K' hK
          obtain ⟨vs, rfl, hM, j4⟩ := hJ
          replace hK := Lib.hid hK
          replace hM := Lib.hid hM
          rw [HG.out] at j4
          simp [Region.binds] at haf
          have e10 := ((j4 10 (by simp [haf]))).trans E10.out
          have e11 := ((j4 11 (by simp [haf]))).trans E11.out
          replace j4 := Lib.hid j4
          clear haf hfb
          have xx0 := (HO.out.step hM.out).c 0 rfl
          have xxz := (HO.out.step hM.out).2.2
          rw [HLIT.out]
          go_simp
          exact hK.out _ _ (RS.next (wv := wv) (vs := vs) 12 (x := .int .i64 xa) (by rw [HLIT.out]; simp only [upv, e10, e11, Nat.reduceBEq, cond_true, cond_false]) (by rw [HG.out]; exact j4.out) hM.out (by rw [HG.out]; exact fun _ _ h => h) (by rw [HG.out]; exact E12.out.symm))
        · intro bf ac wv hfb haf hJ K' hK
          obtain ⟨vs, rfl, hM, j4⟩ := hJ
          replace hK := Lib.hid hK
          replace hM := Lib.hid hM
          rw [HG.out] at j4
          simp [Region.binds] at haf
          have e10 := ((j4 10 (by simp [haf]))).trans E10.out
          replace j4 := Lib.hid j4
          clear haf hfb
          rw [HLIT.out]
          go_simp
          exact hK.out _ _ (RS.next (wv := wv) (vs := vs) 13 (x := .pointer (some ⟨w.heap.size, 0, none⟩)) (by rw [HLIT.out]; simp only [upv, e10, Nat.reduceBEq, cond_true, cond_false]) (by rw [HG.out]; exact j4.out) hM.out (by rw [HG.out]; exact fun _ _ h => h) (by rw [HG.out]; exact E13.out.symm))
        · intro bf ac wv hfb haf hJ K' hK
          obtain ⟨vs, rfl, hM, j4⟩ := hJ
          replace hK := Lib.hid hK
          replace hM := Lib.hid hM
          rw [HG.out] at j4
          simp [Region.binds] at haf
          have e10 := ((j4 10 (by simp [haf]))).trans E10.out
          have e13 := ((j4 13 (by simp [haf]))).trans E13.out
          replace j4 := Lib.hid j4
          clear haf hfb
          have xx0 := (HCq.out.step hM.out).c 0 rfl
          have xxz := (HCq.out.step hM.out).2.2
          rw [HLIT.out]
          go_simp
          exact hK.out _ _ (RS.next (wv := wv) (vs := vs) 14 (x := .int .i64 nx) (by rw [HLIT.out]; simp only [upv, e10, e13, Nat.reduceBEq, cond_true, cond_false]) (by rw [HG.out]; exact j4.out) hM.out (by rw [HG.out]; exact fun _ _ h => h) (by rw [HG.out]; exact E14.out.symm))
        · intro bf ac wv hfb haf hJ K' hK
          obtain ⟨vs, rfl, hM, j4⟩ := hJ
          replace hK := Lib.hid hK
          replace hM := Lib.hid hM
          rw [HG.out] at j4
          simp [Region.binds] at haf
          have e10 := ((j4 10 (by simp [haf]))).trans E10.out
          have e14 := ((j4 14 (by simp [haf]))).trans E14.out
          replace j4 := Lib.hid j4
          clear haf hfb
          rw [HLIT.out]
          go_simp
          exact hK.out _ _ (RS.next (wv := wv) (vs := vs) 15 (x := .int .i64 (nx - 16)) (by rw [HLIT.out]; simp only [upv, e10, e14, HW16.out, Nat.reduceBEq, cond_true, cond_false]) (by rw [HG.out]; exact j4.out) hM.out (by rw [HG.out]; exact fun _ _ h => h) (by rw [HG.out]; exact E15.out.symm))
        · intro bf ac wv hfb haf hJ K' hK
          obtain ⟨vs, rfl, hM, j4⟩ := hJ
          replace hK := Lib.hid hK
          replace hM := Lib.hid hM
          rw [HG.out] at j4
          simp [Region.binds] at haf
          have e10 := ((j4 10 (by simp [haf]))).trans E10.out
          have e12 := ((j4 12 (by simp [haf]))).trans E12.out
          have e15 := ((j4 15 (by simp [haf]))).trans E15.out
          replace j4 := Lib.hid j4
          clear haf hfb
          rw [HLIT.out]
          go_simp
          exact hK.out _ _ (RS.next (wv := wv) (vs := vs) 16 (x := .bool false) (by rw [HLIT.out]; simp only [upv, e10, e12, e15, Nat.reduceBEq, cond_true, cond_false]) (by rw [HG.out]; exact j4.out) hM.out (by rw [HG.out]; exact fun _ _ h => h) (by rw [HG.out]; exact E16.out.symm))
        · intro bf ac wv hfb haf hJ K' hK
          obtain ⟨vs, rfl, hM, j4⟩ := hJ
          replace hK := Lib.hid hK
          replace hM := Lib.hid hM
          rw [HG.out] at j4
          simp [Region.binds] at haf
          have e10 := ((j4 10 (by simp [haf]))).trans E10.out
          have e16 := ((j4 16 (by simp [haf]))).trans E16.out
          replace j4 := Lib.hid j4
          clear haf hfb
          rw [HLIT.out]
          go_simp
          exact hK.out _ _ (RS.next (wv := wv) (vs := vs) 17 (x := .bool false) (by rw [HLIT.out]; simp only [upv, e10, e16, Nat.reduceBEq, cond_true, cond_false]) (by rw [HG.out]; exact j4.out) hM.out (by rw [HG.out]; exact fun _ _ h => h) (by rw [HG.out]; exact E17.out.symm))
        · intro bf ac wv hfb haf hJ K' hK
          obtain ⟨vs, rfl, hM, j4⟩ := hJ
          replace hK := Lib.hid hK
          replace hM := Lib.hid hM
          rw [HG.out] at j4
          simp [Region.binds] at haf
          have e17 := ((j4 17 (by simp [haf]))).trans E17.out
          replace j4 := Lib.hid j4
          clear haf hfb
          rw [HLIT.out]
          go_simp
          exact hK.out _ _ (RS.next (wv := wv) (vs := vs) 18 (x := .bool false) (by rw [HLIT.out]; simp only [upv, e17, Nat.reduceBEq, cond_true, cond_false]) (by rw [HG.out]; exact j4.out) hM.out (by rw [HG.out]; exact fun _ _ h => h) (by rw [HG.out]; exact E18.out.symm))
        · intro bf ac wv hfb haf hJ K' hK
          obtain ⟨vs, rfl, hM, j4⟩ := hJ
          replace hK := Lib.hid hK
          replace hM := Lib.hid hM
          rw [HG.out] at j4
          simp [Region.binds] at haf
          have e18 := ((j4 18 (by simp [haf]))).trans E18.out
          replace j4 := Lib.hid j4
          clear haf hfb
          rw [HLIT.out]
          go_simp
          exact hK.out _ _ (RS.next (wv := wv) (vs := vs) 19 (x := .int .i64 k) (by rw [HLIT.out]; simp only [upv, e18, Nat.reduceBEq, cond_true, cond_false]) (by rw [HG.out]; exact j4.out) hM.out (by rw [HG.out]; exact fun _ _ h => h) (by rw [HG.out]; exact E19.out.symm))
        · intro bf ac wv hfb haf hJ K' hK
          obtain ⟨vs, rfl, hM, j4⟩ := hJ
          replace hK := Lib.hid hK
          replace hM := Lib.hid hM
          rw [HG.out] at j4
          simp [Region.binds] at haf
          have e18 := ((j4 18 (by simp [haf]))).trans E18.out
          have e19 := ((j4 19 (by simp [haf]))).trans E19.out
          replace j4 := Lib.hid j4
          clear haf hfb
          rw [HLIT.out]
          go_simp
          exact hK.out _ _ (RS.next (wv := wv) (vs := vs) 20 (x := .bool true) (by rw [HLIT.out]; simp only [upv, e18, e19, Nat.reduceBEq, cond_true, cond_false]) (by rw [HG.out]; exact j4.out) hM.out (by rw [HG.out]; exact fun _ _ h => h) (by rw [HG.out]; exact E20.out.symm))
        · intro bf ac wv hfb haf hJ K' hK
          obtain ⟨vs, rfl, hM, j4⟩ := hJ
          replace hK := Lib.hid hK
          replace hM := Lib.hid hM
          rw [HG.out] at j4
          simp [Region.binds] at haf
          have e18 := ((j4 18 (by simp [haf]))).trans E18.out
          have e20 := ((j4 20 (by simp [haf]))).trans E20.out
          replace j4 := Lib.hid j4
          clear haf hfb
          rw [HLIT.out]
          go_simp
          exact hK.out _ _ (RS.next (wv := wv) (vs := vs) 21 (x := .bool true) (by rw [HLIT.out]; simp only [upv, e18, e20, Nat.reduceBEq, cond_true, cond_false]) (by rw [HG.out]; exact j4.out) hM.out (by rw [HG.out]; exact fun _ _ h => h) (by rw [HG.out]; exact E21.out.symm))
        · intro bf ac wv hfb haf hJ K' hK
          obtain ⟨vs, rfl, hM, j4⟩ := hJ
          replace hK := Lib.hid hK
          replace hM := Lib.hid hM
          rw [HG.out] at j4
          simp [Region.binds] at haf
          have e21 := ((j4 21 (by simp [haf]))).trans E21.out
          replace j4 := Lib.hid j4
          clear haf hfb
          rw [HLIT.out]
          go_simp
          exact hK.out _ _ (RS.next (wv := wv) (vs := vs) 22 (x := .pointer (some ⟨w.heap.size, 1, none⟩)) (by rw [HLIT.out]; simp only [upv, e21, Nat.reduceBEq, cond_true, cond_false]) (by rw [HG.out]; exact j4.out) hM.out (by rw [HG.out]; exact fun _ _ h => h) (by rw [HG.out]; exact E22.out.symm))
        · intro bf ac wv hfb haf hJ K' hK
          obtain ⟨vs, rfl, hM, j4⟩ := hJ
          replace hK := Lib.hid hK
          replace hM := Lib.hid hM
          rw [HG.out] at j4
          simp [Region.binds] at haf
          have e21 := ((j4 21 (by simp [haf]))).trans E21.out
          have e22 := ((j4 22 (by simp [haf]))).trans E22.out
          replace j4 := Lib.hid j4
          clear haf hfb
          have xx1 := (HCq.out.step hM.out).c 1 rfl
          have xxz := (HCq.out.step hM.out).2.2
          rw [HLIT.out]
          go_simp
          exact hK.out _ _ (RS.next (wv := wv) (vs := vs) 23 (x := .slice (some ⟨b1, o1, none⟩) L.length sc) (by rw [HLIT.out]; simp only [upv, e21, e22, Nat.reduceBEq, cond_true, cond_false]) (by rw [HG.out]; exact j4.out) hM.out (by rw [HG.out]; exact fun _ _ h => h) (by rw [HG.out]; exact E23.out.symm))
        · intro bf ac wv hfb haf hJ K' hK
          obtain ⟨vs, rfl, hM, j4⟩ := hJ
          replace hK := Lib.hid hK
          replace hM := Lib.hid hM
          rw [HG.out] at j4
          simp [Region.binds] at haf
          have e21 := ((j4 21 (by simp [haf]))).trans E21.out
          replace j4 := Lib.hid j4
          clear haf hfb
          rw [HLIT.out]
          go_simp
          exact hK.out _ _ (RS.next (wv := wv) (vs := vs) 24 (x := .int .i64 k) (by rw [HLIT.out]; simp only [upv, e21, Nat.reduceBEq, cond_true, cond_false]) (by rw [HG.out]; exact j4.out) hM.out (by rw [HG.out]; exact fun _ _ h => h) (by rw [HG.out]; exact E24.out.symm))
        · intro bf ac wv hfb haf hJ K' hK
          obtain ⟨vs, rfl, hM, j4⟩ := hJ
          replace hK := Lib.hid hK
          replace hM := Lib.hid hM
          rw [HG.out] at j4
          simp [Region.binds] at haf
          have e21 := ((j4 21 (by simp [haf]))).trans E21.out
          have e24 := ((j4 24 (by simp [haf]))).trans E24.out
          replace j4 := Lib.hid j4
          clear haf hfb
          rw [HLIT.out]
          go_simp
          exact hK.out _ _ (RS.next (wv := wv) (vs := vs) 25 (x := .int .i64 m) (by rw [HLIT.out]; simp only [upv, e21, e24, HWK.out, Nat.reduceBEq, cond_true, cond_false]) (by rw [HG.out]; exact j4.out) hM.out (by rw [HG.out]; exact fun _ _ h => h) (by rw [HG.out]; exact E25.out.symm))
        · intro bf ac wv hfb haf hJ K' hK
          obtain ⟨vs, rfl, hM, j4⟩ := hJ
          replace hK := Lib.hid hK
          replace hM := Lib.hid hM
          rw [HG.out] at j4
          simp [Region.binds] at haf
          have e21 := ((j4 21 (by simp [haf]))).trans E21.out
          have e23 := ((j4 23 (by simp [haf]))).trans E23.out
          have e25 := ((j4 25 (by simp [haf]))).trans E25.out
          replace j4 := Lib.hid j4
          clear haf hfb
          have tm1 : (m : Int) < (L.length : Int) := HML.out
          rw [HLIT.out]
          go_simp
          exact hK.out _ _ (RS.next (wv := wv) (vs := vs) 26 (x := .pointer (some ⟨b1, o1 + m * 4, none⟩)) (by rw [HLIT.out]; simp only [upv, e21, e23, e25, Nat.reduceBEq, cond_true, cond_false]) (by rw [HG.out]; exact j4.out) hM.out (by rw [HG.out]; exact fun _ _ h => h) (by rw [HG.out]; exact E26.out.symm))
        · intro bf ac wv hfb haf hJ K' hK
          obtain ⟨vs, rfl, hM, j4⟩ := hJ
          replace hK := Lib.hid hK
          replace hM := Lib.hid hM
          rw [HG.out] at j4
          simp [Region.binds] at haf
          have e21 := ((j4 21 (by simp [haf]))).trans E21.out
          have e26 := ((j4 26 (by simp [haf]))).trans E26.out
          replace j4 := Lib.hid j4
          clear haf hfb
          rw [HLIT.out]
          go_simp
          exact hK.out _ _ (RS.next (wv := wv) (vs := vs) 27 (x := .pointer (some ⟨b1, o1 + m * 4, none⟩)) (by rw [HLIT.out]; simp only [upv, e21, e26, Nat.reduceBEq, cond_true, cond_false]) (by rw [HG.out]; exact j4.out) hM.out (by rw [HG.out]; exact fun _ _ h => h) (by rw [HG.out]; exact E27.out.symm))
        · intro bf ac wv hfb haf hJ K' hK
          obtain ⟨vs, rfl, hM, j4⟩ := hJ
          replace hK := Lib.hid hK
          replace hM := Lib.hid hM
          rw [HG.out] at j4
          simp [Region.binds] at haf
          have e21 := ((j4 21 (by simp [haf]))).trans E21.out
          have e27 := ((j4 27 (by simp [haf]))).trans E27.out
          replace j4 := Lib.hid j4
          clear haf hfb
          have q0 := (HPA.out _ hM.out)
          have qz : b1 < wv.heap.size := World.block_lt_of_cell? _ _ q0
          rw [HLIT.out]
          go_simp
          exact hK.out _ _ (RS.next (wv := wv) (vs := vs) 28 (x := .int .i64 pa) (by rw [HLIT.out]; simp only [upv, e21, e27, Nat.reduceBEq, cond_true, cond_false]) (by rw [HG.out]; exact j4.out) hM.out (by rw [HG.out]; exact fun _ _ h => h) (by rw [HG.out]; exact E28.out.symm))
        · intro bf ac wv hfb haf hJ K' hK
          obtain ⟨vs, rfl, hM, j4⟩ := hJ
          replace hK := Lib.hid hK
          replace hM := Lib.hid hM
          rw [HG.out] at j4
          simp [Region.binds] at haf
          have e21 := ((j4 21 (by simp [haf]))).trans E21.out
          replace j4 := Lib.hid j4
          clear haf hfb
          rw [HLIT.out]
          go_simp
          exact hK.out _ _ (RS.next (wv := wv) (vs := vs) 29 (x := .pointer (some ⟨wr.heap.size, 0, none⟩)) (by rw [HLIT.out]; simp only [upv, e21, Nat.reduceBEq, cond_true, cond_false]) (by rw [HG.out]; exact j4.out) hM.out (by rw [HG.out]; exact fun _ _ h => h) (by rw [HG.out]; exact E29.out.symm))
        · intro bf ac wv hfb haf hJ K' hK
          obtain ⟨vs, rfl, hM, j4⟩ := hJ
          replace hK := Lib.hid hK
          replace hM := Lib.hid hM
          rw [HG.out] at j4
          simp [Region.binds] at haf
          have e21 := ((j4 21 (by simp [haf]))).trans E21.out
          have e29 := ((j4 29 (by simp [haf]))).trans E29.out
          replace j4 := Lib.hid j4
          clear haf hfb
          have xx0 := (HO.out.step hM.out).c 0 rfl
          have xxz := (HO.out.step hM.out).2.2
          rw [HLIT.out]
          go_simp
          exact hK.out _ _ (RS.next (wv := wv) (vs := vs) 30 (x := .int .i64 xa) (by rw [HLIT.out]; simp only [upv, e21, e29, Nat.reduceBEq, cond_true, cond_false]) (by rw [HG.out]; exact j4.out) hM.out (by rw [HG.out]; exact fun _ _ h => h) (by rw [HG.out]; exact E30.out.symm))
        · intro bf ac wv hfb haf hJ K' hK
          obtain ⟨vs, rfl, hM, j4⟩ := hJ
          replace hK := Lib.hid hK
          replace hM := Lib.hid hM
          rw [HG.out] at j4
          simp [Region.binds] at haf
          have e21 := ((j4 21 (by simp [haf]))).trans E21.out
          have e28 := ((j4 28 (by simp [haf]))).trans E28.out
          have e30 := ((j4 30 (by simp [haf]))).trans E30.out
          replace j4 := Lib.hid j4
          clear haf hfb
          rw [HLIT.out]
          go_simp
          exact hK.out _ _ (RS.next (wv := wv) (vs := vs) 31 (x := .bool true) (by rw [HLIT.out]; simp only [upv, e21, e28, e30, Nat.reduceBEq, cond_true, cond_false]) (by rw [HG.out]; exact j4.out) hM.out (by rw [HG.out]; exact fun _ _ h => h) (by rw [HG.out]; exact E31.out.symm))
        · intro bf ac wv hfb haf hJ K' hK
          obtain ⟨vs, rfl, hM, j4⟩ := hJ
          replace hK := Lib.hid hK
          replace hM := Lib.hid hM
          rw [HG.out] at j4
          simp [Region.binds] at haf
          have e18 := ((j4 18 (by simp [haf]))).trans E18.out
          have e21 := ((j4 21 (by simp [haf]))).trans E21.out
          have e31 := ((j4 31 (by simp [haf]))).trans E31.out
          replace j4 := Lib.hid j4
          clear haf hfb
          rw [HLIT.out]
          go_simp
          exact hK.out _ _ (RS.next (wv := wv) (vs := vs) 32 (x := .bool true) (by rw [HLIT.out]; simp only [upv, e18, e21, e31, Nat.reduceBEq, cond_true, cond_false]) (by rw [HG.out]; exact j4.out) hM.out (by rw [HG.out]; exact fun _ _ h => h) (by rw [HG.out]; exact E32.out.symm))
        · intro bf ac wv hfb haf hJ K' hK
          obtain ⟨vs, rfl, hM, j4⟩ := hJ
          replace hK := Lib.hid hK
          replace hM := Lib.hid hM
          rw [HG.out] at j4
          simp [Region.binds] at haf
          have e18 := ((j4 18 (by simp [haf]))).trans E18.out
          have e32 := ((j4 32 (by simp [haf]))).trans E32.out
          replace j4 := Lib.hid j4
          clear haf hfb
          rw [HLIT.out]
          go_simp
          exact hK.out _ _ (RS.next (wv := wv) (vs := vs) 33 (x := .bool true) (by rw [HLIT.out]; simp only [upv, e18, e32, Nat.reduceBEq, cond_true, cond_false]) (by rw [HG.out]; exact j4.out) hM.out (by rw [HG.out]; exact fun _ _ h => h) (by rw [HG.out]; exact E33.out.symm))
      · intro bf ac wv hall hJ
        obtain ⟨vs, rfl, hM, j4⟩ := hJ
        rw [HG.out] at j4
        have hlast := ((j4 33 (hall 33 (by decide)))).trans E33.out
        clear j4 hall
        rw [HLIT.out]
        dsimp only
        rw [hlast]
        clear hlast
        have HB9 := Lib.hid (HW.out.trans ((keep2 hM HBo.out).mono HW.out.size))
        go_wp2
        go_ret
        exact ⟨by rw [HE.out]; rfl, keep2 HB9.out HB0.out⟩
    have d7 : decide (pa ≥ xa) = false := by simpa using q3
    have d8 : decide (xa ≤ pa) = false := decide_eq_false q3
    have HN2 := Lib.hid (show ∀ j, j < k + 1 → snA nx L j from fun j h => by
      by_cases e : j = k
      · subst e; exact HS.out.2 ⟨hok, by show lst nx L j ≤ xa; rw [HLS.out]; omega, by show xa < nx; omega⟩
      · exact HN.out j (by omega))
    clear HN HS hok hmk hpa
    obtain ⟨lit, hlit⟩ : ∃ lit : (Nat → Value) → Act, lit = fun vs => { tmps := List.toArray (Value.agg #[Value.int IntKind.i64 nx, Value.slice (some { block := b1, off := o1 }) L.length sc] :: Value.pointer (some { block := w.heap.size, off := 0 }) :: u2 :: Value.int IntKind.i64 (k : Int) :: Value.pointer (some { block := wr.heap.size, off := 0 }) :: Value.pointer (some { block := w.heap.size, off := 0 }) :: Value.int IntKind.i64 nx :: Value.bool true :: Value.bool false :: Value.int IntKind.i64 (k : Int) :: Value.pointer (some { block := w.heap.size, off := 1 }) :: Value.slice (some { block := b1, off := o1 }) L.length sc :: Value.int IntKind.i64 (L.length : Int) :: Value.bool true :: u14 :: u15 :: Value.pointer (some { block := w.heap.size, off := 1 }) :: Value.slice (some { block := b1, off := o1 }) L.length sc :: Value.int IntKind.i64 (k : Int) :: Value.pointer (some { block := b1, off := o1 + k * 4 }) :: Value.agg #[Value.int IntKind.i64 xa, Value.int IntKind.i64 xb, Value.int IntKind.i64 xc, Value.int IntKind.i64 xd] :: vs 0 :: vs 1 :: vs 2 :: vs 3 :: vs 4 :: vs 5 :: vs 6 :: vs 7 :: vs 8 :: vs 9 :: vs 10 :: vs 11 :: vs 12 :: vs 13 :: vs 14 :: vs 15 :: vs 16 :: vs 17 :: vs 18 :: vs 19 :: vs 20 :: vs 21 :: vs 22 :: vs 23 :: vs 24 :: vs 25 :: vs 26 :: vs 27 :: vs 28 :: vs 29 :: vs 30 :: vs 31 :: vs 32 :: vs 33 :: []), defers := [] } := ⟨_, rfl⟩
    have HLIT := Lib.hid hlit
    clear hlit
    obtain ⟨val, hval⟩ : ∃ val : List Value, val = [.agg #[.int .i64 xa, .int .i64 xb, .int .i64 xc, .int .i64 xd], .bool true, .bool false, .bool false, .pointer (some ⟨wr.heap.size, 0, none⟩), .int .i64 xa, .pointer (some ⟨w.heap.size, 0, none⟩), .int .i64 nx, .bool false, .bool false, .bool false, .pointer (some ⟨wr.heap.size, 0, none⟩), .int .i64 xa, .pointer (some ⟨w.heap.size, 0, none⟩), .int .i64 nx, .int .i64 (nx - 16), .bool false, .bool false, .bool false, .int .i64 k, .bool true, .bool true, .pointer (some ⟨w.heap.size, 1, none⟩), .slice (some ⟨b1, o1, none⟩) L.length sc, .int .i64 k, .int .i64 m, .pointer (some ⟨b1, o1 + m * 4, none⟩), .pointer (some ⟨b1, o1 + m * 4, none⟩), .int .i64 pa, .pointer (some ⟨wr.heap.size, 0, none⟩), .int .i64 xa, .bool false, .bool false, .bool false] := ⟨_, rfl⟩
    have E0 := Lib.hid (show val.getD 0 undef = .agg #[.int .i64 xa, .int .i64 xb, .int .i64 xc, .int .i64 xd] by rw [hval]; rfl)
    have E1 := Lib.hid (show val.getD 1 undef = .bool true by rw [hval]; rfl)
    have E2 := Lib.hid (show val.getD 2 undef = .bool false by rw [hval]; rfl)
    have E3 := Lib.hid (show val.getD 3 undef = .bool false by rw [hval]; rfl)
    have E4 := Lib.hid (show val.getD 4 undef = .pointer (some ⟨wr.heap.size, 0, none⟩) by rw [hval]; rfl)
    have E5 := Lib.hid (show val.getD 5 undef = .int .i64 xa by rw [hval]; rfl)
    have E6 := Lib.hid (show val.getD 6 undef = .pointer (some ⟨w.heap.size, 0, none⟩) by rw [hval]; rfl)
    have E7 := Lib.hid (show val.getD 7 undef = .int .i64 nx by rw [hval]; rfl)
    have E8 := Lib.hid (show val.getD 8 undef = .bool false by rw [hval]; rfl)
    have E9 := Lib.hid (show val.getD 9 undef = .bool false by rw [hval]; rfl)
    have E10 := Lib.hid (show val.getD 10 undef = .bool false by rw [hval]; rfl)
    have E11 := Lib.hid (show val.getD 11 undef = .pointer (some ⟨wr.heap.size, 0, none⟩) by rw [hval]; rfl)
    have E12 := Lib.hid (show val.getD 12 undef = .int .i64 xa by rw [hval]; rfl)
    have E13 := Lib.hid (show val.getD 13 undef = .pointer (some ⟨w.heap.size, 0, none⟩) by rw [hval]; rfl)
    have E14 := Lib.hid (show val.getD 14 undef = .int .i64 nx by rw [hval]; rfl)
    have E15 := Lib.hid (show val.getD 15 undef = .int .i64 (nx - 16) by rw [hval]; rfl)
    have E16 := Lib.hid (show val.getD 16 undef = .bool false by rw [hval]; rfl)
    have E17 := Lib.hid (show val.getD 17 undef = .bool false by rw [hval]; rfl)
    have E18 := Lib.hid (show val.getD 18 undef = .bool false by rw [hval]; rfl)
    have E19 := Lib.hid (show val.getD 19 undef = .int .i64 k by rw [hval]; rfl)
    have E20 := Lib.hid (show val.getD 20 undef = .bool true by rw [hval]; rfl)
    have E21 := Lib.hid (show val.getD 21 undef = .bool true by rw [hval]; rfl)
    have E22 := Lib.hid (show val.getD 22 undef = .pointer (some ⟨w.heap.size, 1, none⟩) by rw [hval]; rfl)
    have E23 := Lib.hid (show val.getD 23 undef = .slice (some ⟨b1, o1, none⟩) L.length sc by rw [hval]; rfl)
    have E24 := Lib.hid (show val.getD 24 undef = .int .i64 k by rw [hval]; rfl)
    have E25 := Lib.hid (show val.getD 25 undef = .int .i64 m by rw [hval]; rfl)
    have E26 := Lib.hid (show val.getD 26 undef = .pointer (some ⟨b1, o1 + m * 4, none⟩) by rw [hval]; rfl)
    have E27 := Lib.hid (show val.getD 27 undef = .pointer (some ⟨b1, o1 + m * 4, none⟩) by rw [hval]; rfl)
    have E28 := Lib.hid (show val.getD 28 undef = .int .i64 pa by rw [hval]; rfl)
    have E29 := Lib.hid (show val.getD 29 undef = .pointer (some ⟨wr.heap.size, 0, none⟩) by rw [hval]; rfl)
    have E30 := Lib.hid (show val.getD 30 undef = .int .i64 xa by rw [hval]; rfl)
    have E31 := Lib.hid (show val.getD 31 undef = .bool false by rw [hval]; rfl)
    have E32 := Lib.hid (show val.getD 32 undef = .bool false by rw [hval]; rfl)
    have E33 := Lib.hid (show val.getD 33 undef = .bool false by rw [hval]; rfl)
    clear hval
    obtain ⟨G, hG0⟩ : ∃ G : Nat → Value → World → Prop, G = (fun i v w => (v = val.getD i undef)) := ⟨_, rfl⟩
    have HG := Lib.hid hG0
    clear hG0
    refine region_inv (RS lit wq G) (by kernel_rfl) (by decide +kernel) ?_ ?_ ?_
    · exact ⟨fun i => ([u21, u22, u23, u24, u25, u26, u27, u28, u29, u30, u31, u32, u33, u34, u35, u36, u37, u38, u39, u40, u41, u42, u43, u44, u45, u46, u47, u48, u49, u50, u51, u52, u53, u54] : List Value).getD i undef, (by rw [HLIT.out]; rfl), below_drew _ _, fun i h => by cases h⟩
    · refine ⟨?_, ?_, ?_, ?_, ?_, ?_, ?_, ?_, ?_, ?_, ?_, ?_, ?_, ?_, ?_, ?_, ?_, ?_, ?_, ?_, ?_, ?_, ?_, ?_, ?_, ?_, ?_, ?_, ?_, ?_, ?_, ?_, ?_, ?_, trivial⟩
      · intro bf ac wv hfb haf hJ K' hK
        obtain ⟨vs, rfl, hM, j4⟩ := hJ
        replace hK := Lib.hid hK
        replace hM := Lib.hid hM
        rw [HG.out] at j4
        replace j4 := Lib.hid j4
        clear haf hfb
        have xx0 := (HO.out.step hM.out).c 0 rfl
        have xx1 := (HO.out.step hM.out).c 1 rfl
        have xx2 := (HO.out.step hM.out).c 2 rfl
        have xx3 := (HO.out.step hM.out).c 3 rfl
        have xxz := (HO.out.step hM.out).2.2
        rw [HLIT.out]
        go_simp
        exact hK.out _ _ (RS.next (wv := wv) (vs := vs) 0 (x := .agg #[.int .i64 xa, .int .i64 xb, .int .i64 xc, .int .i64 xd]) (by rw [HLIT.out]; rfl) (by rw [HG.out]; exact j4.out) hM.out (by rw [HG.out]; exact fun _ _ h => h) (by rw [HG.out]; exact E0.out.symm))
      · intro bf ac wv hfb haf hJ K' hK
        obtain ⟨vs, rfl, hM, j4⟩ := hJ
        replace hK := Lib.hid hK
        replace hM := Lib.hid hM
        rw [HG.out] at j4
        simp [Region.binds] at haf
        have e0 := ((j4 0 (by simp [haf]))).trans E0.out
        replace j4 := Lib.hid j4
        clear haf hfb
        rw [HLIT.out]
        go_simp
        go_at_call 26
        refine (rorder_any xa xb xc xd true HOK.out _).mono ?_
        rintro e w4 ⟨rfl, b4⟩
        exact hK.out _ _ (RS.next (wv := wv) (vs := vs) 1 (x := .bool true) (by rw [HLIT.out]; simp only [upv, e0, Nat.reduceBEq, cond_true, cond_false]) (by rw [HG.out]; exact j4.out) (keep2 b4 hM.out) (by rw [HG.out]; exact fun _ _ h => h) (by rw [HG.out]; exact E1.out.symm))
      · intro bf ac wv hfb haf hJ K' hK
        obtain ⟨vs, rfl, hM, j4⟩ := hJ
        replace hK := Lib.hid hK
        replace hM := Lib.hid hM
        rw [HG.out] at j4
        simp [Region.binds] at haf
        have e1 := ((j4 1 (by simp [haf]))).trans E1.out
        replace j4 := Lib.hid j4
        clear haf hfb
        rw [HLIT.out]
        go_simp
        exact hK.out _ _ (RS.next (wv := wv) (vs := vs) 2 (x := .bool false) (by rw [HLIT.out]; simp only [upv, e1, Nat.reduceBEq, cond_true, cond_false]) (by rw [HG.out]; exact j4.out) hM.out (by rw [HG.out]; exact fun _ _ h => h) (by rw [HG.out]; exact E2.out.symm))
      · intro bf ac wv hfb haf hJ K' hK
        obtain ⟨vs, rfl, hM, j4⟩ := hJ
        replace hK := Lib.hid hK
        replace hM := Lib.hid hM
        rw [HG.out] at j4
        simp [Region.binds] at haf
        have e2 := ((j4 2 (by simp [haf]))).trans E2.out
        replace j4 := Lib.hid j4
        clear haf hfb
        rw [HLIT.out]
        go_simp
        exact hK.out _ _ (RS.next (wv := wv) (vs := vs) 3 (x := .bool false) (by rw [HLIT.out]; simp only [upv, e2, Nat.reduceBEq, cond_true, cond_false]) (by rw [HG.out]; exact j4.out) hM.out (by rw [HG.out]; exact fun _ _ h => h) (by rw [HG.out]; exact E3.out.symm))
      · intro bf ac wv hfb haf hJ K' hK
        obtain ⟨vs, rfl, hM, j4⟩ := hJ
        replace hK := Lib.hid hK
        replace hM := Lib.hid hM
        rw [HG.out] at j4
        simp [Region.binds] at haf
        have e3 := ((j4 3 (by simp [haf]))).trans E3.out
        replace j4 := Lib.hid j4
        clear haf hfb
        rw [HLIT.out]
        go_simp
        exact hK.out _ _ (RS.next (wv := wv) (vs := vs) 4 (x := .pointer (some ⟨wr.heap.size, 0, none⟩)) (by rw [HLIT.out]; simp only [upv, e3, Nat.reduceBEq, cond_true, cond_false]) (by rw [HG.out]; exact j4.out) hM.out (by rw [HG.out]; exact fun _ _ h => h) (by rw [HG.out]; exact E4.out.symm))
      · intro bf ac wv hfb haf hJ K' hK
        obtain ⟨vs, rfl, hM, j4⟩ := hJ
        replace hK := Lib.hid hK
        replace hM := Lib.hid hM
        rw [HG.out] at j4
        simp [Region.binds] at haf
        have e3 := ((j4 3 (by simp [haf]))).trans E3.out
        have e4 := ((j4 4 (by simp [haf]))).trans E4.out
        replace j4 := Lib.hid j4
        clear haf hfb
        have xx0 := (HO.out.step hM.out).c 0 rfl
        have xxz := (HO.out.step hM.out).2.2
        rw [HLIT.out]
        go_simp
        exact hK.out _ _ (RS.next (wv := wv) (vs := vs) 5 (x := .int .i64 xa) (by rw [HLIT.out]; simp only [upv, e3, e4, Nat.reduceBEq, cond_true, cond_false]) (by rw [HG.out]; exact j4.out) hM.out (by rw [HG.out]; exact fun _ _ h => h) (by rw [HG.out]; exact E5.out.symm))
      · intro bf ac wv hfb haf hJ K' hK
        obtain ⟨vs, rfl, hM, j4⟩ := hJ
        replace hK := Lib.hid hK
        replace hM := Lib.hid hM
        rw [HG.out] at j4
        simp [Region.binds] at haf
        have e3 := ((j4 3 (by simp [haf]))).trans E3.out
        replace j4 := Lib.hid j4
        clear haf hfb
        rw [HLIT.out]
        go_simp
        exact hK.out _ _ (RS.next (wv := wv) (vs := vs) 6 (x := .pointer (some ⟨w.heap.size, 0, none⟩)) (by rw [HLIT.out]; simp only [upv, e3, Nat.reduceBEq, cond_true, cond_false]) (by rw [HG.out]; exact j4.out) hM.out (by rw [HG.out]; exact fun _ _ h => h) (by rw [HG.out]; exact E6.out.symm))
      · intro bf ac wv hfb haf hJ K' hK
        obtain ⟨vs, rfl, hM, j4⟩ := hJ
        replace hK := Lib.hid hK
        replace hM := Lib.hid hM
        rw [HG.out] at j4
        simp [Region.binds] at haf
        have e3 := ((j4 3 (by simp [haf]))).trans E3.out
        have e6 := ((j4 6 (by simp [haf]))).trans E6.out
        replace j4 := Lib.hid j4
        clear haf hfb
        have xx0 := (HCq.out.step hM.out).c 0 rfl
        have xxz := (HCq.out.step hM.out).2.2
        rw [HLIT.out]
        go_simp
        exact hK.out _ _ (RS.next (wv := wv) (vs := vs) 7 (x := .int .i64 nx) (by rw [HLIT.out]; simp only [upv, e3, e6, Nat.reduceBEq, cond_true, cond_false]) (by rw [HG.out]; exact j4.out) hM.out (by rw [HG.out]; exact fun _ _ h => h) (by rw [HG.out]; exact E7.out.symm))
      · intro bf ac wv hfb haf hJ K' hK
        obtain ⟨vs, rfl, hM, j4⟩ := hJ
        replace hK := Lib.hid hK
        replace hM := Lib.hid hM
        rw [HG.out] at j4
        simp [Region.binds] at haf
        have e3 := ((j4 3 (by simp [haf]))).trans E3.out
        have e5 := ((j4 5 (by simp [haf]))).trans E5.out
        have e7 := ((j4 7 (by simp [haf]))).trans E7.out
        replace j4 := Lib.hid j4
        clear haf hfb
        rw [HLIT.out]
        go_simp
        exact hK.out _ _ (RS.next (wv := wv) (vs := vs) 8 (x := .bool false) (by rw [HLIT.out]; simp only [upv, e3, e5, e7, Nat.reduceBEq, cond_true, cond_false]) (by rw [HG.out]; exact j4.out) hM.out (by rw [HG.out]; exact fun _ _ h => h) (by rw [HG.out]; exact E8.out.symm))
      · intro bf ac wv hfb haf hJ K' hK
        obtain ⟨vs, rfl, hM, j4⟩ := hJ
        replace hK := Lib.hid hK
        replace hM := Lib.hid hM
        rw [HG.out] at j4
        simp [Region.binds] at haf
        have e3 := ((j4 3 (by simp [haf]))).trans E3.out
        have e8 := ((j4 8 (by simp [haf]))).trans E8.out
        replace j4 := Lib.hid j4
        clear haf hfb
        rw [HLIT.out]
        go_simp
        exact hK.out _ _ (RS.next (wv := wv) (vs := vs) 9 (x := .bool false) (by rw [HLIT.out]; simp only [upv, e3, e8, Nat.reduceBEq, cond_true, cond_false]) (by rw [HG.out]; exact j4.out) hM.out (by rw [HG.out]; exact fun _ _ h => h) (by rw [HG.out]; exact E9.out.symm))
      · intro bf ac wv hfb haf hJ K' hK
        obtain ⟨vs, rfl, hM, j4⟩ := hJ
        replace hK := Lib.hid hK
        replace hM := Lib.hid hM
        rw [HG.out] at j4
        simp [Region.binds] at haf
        have e9 := ((j4 9 (by simp [haf]))).trans E9.out
        replace j4 := Lib.hid j4
        clear haf hfb
        rw [HLIT.out]
        go_simp
        exact hK.out _ _ (RS.next (wv := wv) (vs := vs) 10 (x := .bool false) (by rw [HLIT.out]; simp only [upv, e9, Nat.reduceBEq, cond_true, cond_false]) (by rw [HG.out]; exact j4.out) hM.out (by rw [HG.out]; exact fun _ _ h => h) (by rw [HG.out]; exact E10.out.symm))
      · intro bf ac wv hfb haf hJ K' hK
        obtain ⟨vs, rfl, hM, j4⟩ := hJ
        replace hK := Lib.hid hK
        replace hM := Lib.hid hM
        rw [HG.out] at j4
        simp [Region.binds] at haf
        have e10 := ((j4 10 (by simp [haf]))).trans E10.out
        replace j4 := Lib.hid j4
        clear haf hfb
        rw [HLIT.out]
        go_simp
        exact hK.out _ _ (RS.next (wv := wv) (vs := vs) 11 (x := .pointer (some ⟨wr.heap.size, 0, none⟩)) (by rw [HLIT.out]; simp only [upv, e10, Nat.reduceBEq, cond_true, cond_false]) (by rw [HG.out]; exact j4.out) hM.out (by rw [HG.out]; exact fun _ _ h => h) (by rw [HG.out]; exact E11.out.symm))
      · intro bf ac wv hfb haf hJ K' hK
        obtain ⟨vs, rfl, hM, j4⟩ := hJ
        replace hK := Lib.hid hK
        replace hM := Lib.hid hM
        rw [HG.out] at j4
        simp [Region.binds] at haf
        have e10 := ((j4 10 (by simp [haf]))).trans E10.out
        have e11 := ((j4 11 (by simp [haf]))).trans E11.out
        replace j4 := Lib.hid j4
        clear haf hfb
        have xx0 := (HO.out.step hM.out).c 0 rfl
        have xxz := (HO.out.step hM.out).2.2
        rw [HLIT.out]
        go_simp
        exact hK.out _ _ (RS.next (wv := wv) (vs := vs) 12 (x := .int .i64 xa) (by rw [HLIT.out]; simp only [upv, e10, e11, Nat.reduceBEq, cond_true, cond_false]) (by rw [HG.out]; exact j4.out) hM.out (by rw [HG.out]; exact fun _ _ h => h) (by rw [HG.out]; exact E12.out.symm))
      · intro bf ac wv hfb haf hJ K' hK
        obtain ⟨vs, rfl, hM, j4⟩ := hJ
        replace hK := Lib.hid hK
        replace hM := Lib.hid hM
        rw [HG.out] at j4
        simp [Region.binds] at haf
        have e10 := ((j4 10 (by simp [haf]))).trans E10.out
        replace j4 := Lib.hid j4
        clear haf hfb
        rw [HLIT.out]
        go_simp
        exact hK.out _ _ (RS.next (wv := wv) (vs := vs) 13 (x := .pointer (some ⟨w.heap.size, 0, none⟩)) (by rw [HLIT.out]; simp only [upv, e10, Nat.reduceBEq, cond_true, cond_false]) (by rw [HG.out]; exact j4.out) hM.out (by rw [HG.out]; exact fun _ _ h => h) (by rw [HG.out]; exact E13.out.symm))
      · intro bf ac wv hfb haf hJ K' hK
        obtain ⟨vs, rfl, hM, j4⟩ := hJ
        replace hK := Lib.hid hK
        replace hM := Lib.hid hM
        rw [HG.out] at j4
        simp [Region.binds] at haf
        have e10 := ((j4 10 (by simp [haf]))).trans E10.out
        have e13 := ((j4 13 (by simp [haf]))).trans E13.out
        replace j4 := Lib.hid j4
        clear haf hfb
        have xx0 := (HCq.out.step hM.out).c 0 rfl
        have xxz := (HCq.out.step hM.out).2.2
        rw [HLIT.out]
        go_simp
        exact hK.out _ _ (RS.next (wv := wv) (vs := vs) 14 (x := .int .i64 nx) (by rw [HLIT.out]; simp only [upv, e10, e13, Nat.reduceBEq, cond_true, cond_false]) (by rw [HG.out]; exact j4.out) hM.out (by rw [HG.out]; exact fun _ _ h => h) (by rw [HG.out]; exact E14.out.symm))
      · intro bf ac wv hfb haf hJ K' hK
        obtain ⟨vs, rfl, hM, j4⟩ := hJ
        replace hK := Lib.hid hK
        replace hM := Lib.hid hM
        rw [HG.out] at j4
        simp [Region.binds] at haf
        have e10 := ((j4 10 (by simp [haf]))).trans E10.out
        have e14 := ((j4 14 (by simp [haf]))).trans E14.out
        replace j4 := Lib.hid j4
        clear haf hfb
        rw [HLIT.out]
        go_simp
        exact hK.out _ _ (RS.next (wv := wv) (vs := vs) 15 (x := .int .i64 (nx - 16)) (by rw [HLIT.out]; simp only [upv, e10, e14, HW16.out, Nat.reduceBEq, cond_true, cond_false]) (by rw [HG.out]; exact j4.out) hM.out (by rw [HG.out]; exact fun _ _ h => h) (by rw [HG.out]; exact E15.out.symm))
      · intro bf ac wv hfb haf hJ K' hK
        obtain ⟨vs, rfl, hM, j4⟩ := hJ
        replace hK := Lib.hid hK
        replace hM := Lib.hid hM
        rw [HG.out] at j4
        simp [Region.binds] at haf
        have e10 := ((j4 10 (by simp [haf]))).trans E10.out
        have e12 := ((j4 12 (by simp [haf]))).trans E12.out
        have e15 := ((j4 15 (by simp [haf]))).trans E15.out
        replace j4 := Lib.hid j4
        clear haf hfb
        rw [HLIT.out]
        go_simp
        exact hK.out _ _ (RS.next (wv := wv) (vs := vs) 16 (x := .bool false) (by rw [HLIT.out]; simp only [upv, e10, e12, e15, Nat.reduceBEq, cond_true, cond_false]) (by rw [HG.out]; exact j4.out) hM.out (by rw [HG.out]; exact fun _ _ h => h) (by rw [HG.out]; exact E16.out.symm))
      · intro bf ac wv hfb haf hJ K' hK
        obtain ⟨vs, rfl, hM, j4⟩ := hJ
        replace hK := Lib.hid hK
        replace hM := Lib.hid hM
        rw [HG.out] at j4
        simp [Region.binds] at haf
        have e10 := ((j4 10 (by simp [haf]))).trans E10.out
        have e16 := ((j4 16 (by simp [haf]))).trans E16.out
        replace j4 := Lib.hid j4
        clear haf hfb
        rw [HLIT.out]
        go_simp
        exact hK.out _ _ (RS.next (wv := wv) (vs := vs) 17 (x := .bool false) (by rw [HLIT.out]; simp only [upv, e10, e16, Nat.reduceBEq, cond_true, cond_false]) (by rw [HG.out]; exact j4.out) hM.out (by rw [HG.out]; exact fun _ _ h => h) (by rw [HG.out]; exact E17.out.symm))
      · intro bf ac wv hfb haf hJ K' hK
        obtain ⟨vs, rfl, hM, j4⟩ := hJ
        replace hK := Lib.hid hK
        replace hM := Lib.hid hM
        rw [HG.out] at j4
        simp [Region.binds] at haf
        have e17 := ((j4 17 (by simp [haf]))).trans E17.out
        replace j4 := Lib.hid j4
        clear haf hfb
        rw [HLIT.out]
        go_simp
        exact hK.out _ _ (RS.next (wv := wv) (vs := vs) 18 (x := .bool false) (by rw [HLIT.out]; simp only [upv, e17, Nat.reduceBEq, cond_true, cond_false]) (by rw [HG.out]; exact j4.out) hM.out (by rw [HG.out]; exact fun _ _ h => h) (by rw [HG.out]; exact E18.out.symm))
      · intro bf ac wv hfb haf hJ K' hK
        obtain ⟨vs, rfl, hM, j4⟩ := hJ
        replace hK := Lib.hid hK
        replace hM := Lib.hid hM
        rw [HG.out] at j4
        simp [Region.binds] at haf
        have e18 := ((j4 18 (by simp [haf]))).trans E18.out
        replace j4 := Lib.hid j4
        clear haf hfb
        rw [HLIT.out]
        go_simp
        exact hK.out _ _ (RS.next (wv := wv) (vs := vs) 19 (x := .int .i64 k) (by rw [HLIT.out]; simp only [upv, e18, Nat.reduceBEq, cond_true, cond_false]) (by rw [HG.out]; exact j4.out) hM.out (by rw [HG.out]; exact fun _ _ h => h) (by rw [HG.out]; exact E19.out.symm))
      · intro bf ac wv hfb haf hJ K' hK
        obtain ⟨vs, rfl, hM, j4⟩ := hJ
        replace hK := Lib.hid hK
        replace hM := Lib.hid hM
        rw [HG.out] at j4
        simp [Region.binds] at haf
        have e18 := ((j4 18 (by simp [haf]))).trans E18.out
        have e19 := ((j4 19 (by simp [haf]))).trans E19.out
        replace j4 := Lib.hid j4
        clear haf hfb
        rw [HLIT.out]
        go_simp
        exact hK.out _ _ (RS.next (wv := wv) (vs := vs) 20 (x := .bool true) (by rw [HLIT.out]; simp only [upv, e18, e19, Nat.reduceBEq, cond_true, cond_false]) (by rw [HG.out]; exact j4.out) hM.out (by rw [HG.out]; exact fun _ _ h => h) (by rw [HG.out]; exact E20.out.symm))
      · intro bf ac wv hfb haf hJ K' hK
        obtain ⟨vs, rfl, hM, j4⟩ := hJ
        replace hK := Lib.hid hK
        replace hM := Lib.hid hM
        rw [HG.out] at j4
        simp [Region.binds] at haf
        have e18 := ((j4 18 (by simp [haf]))).trans E18.out
        have e20 := ((j4 20 (by simp [haf]))).trans E20.out
        replace j4 := Lib.hid j4
        clear haf hfb
        rw [HLIT.out]
        go_simp
        exact hK.out _ _ (RS.next (wv := wv) (vs := vs) 21 (x := .bool true) (by rw [HLIT.out]; simp only [upv, e18, e20, Nat.reduceBEq, cond_true, cond_false]) (by rw [HG.out]; exact j4.out) hM.out (by rw [HG.out]; exact fun _ _ h => h) (by rw [HG.out]; exact E21.out.symm))
      · intro bf ac wv hfb haf hJ K' hK
        obtain ⟨vs, rfl, hM, j4⟩ := hJ
        replace hK := Lib.hid hK
        replace hM := Lib.hid hM
        rw [HG.out] at j4
        simp [Region.binds] at haf
        have e21 := ((j4 21 (by simp [haf]))).trans E21.out
        replace j4 := Lib.hid j4
        clear haf hfb
        rw [HLIT.out]
        go_simp
        exact hK.out _ _ (RS.next (wv := wv) (vs := vs) 22 (x := .pointer (some ⟨w.heap.size, 1, none⟩)) (by rw [HLIT.out]; simp only [upv, e21, Nat.reduceBEq, cond_true, cond_false]) (by rw [HG.out]; exact j4.out) hM.out (by rw [HG.out]; exact fun _ _ h => h) (by rw [HG.out]; exact E22.out.symm))
      · intro bf ac wv hfb haf hJ K' hK
        obtain ⟨vs, rfl, hM, j4⟩ := hJ
        replace hK := Lib.hid hK
        replace hM := Lib.hid hM
        rw [HG.out] at j4
        simp [Region.binds] at haf
        have e21 := ((j4 21 (by simp [haf]))).trans E21.out
        have e22 := ((j4 22 (by simp [haf]))).trans E22.out
        replace j4 := Lib.hid j4
        clear haf hfb
        have xx1 := (HCq.out.step hM.out).c 1 rfl
        have xxz := (HCq.out.step hM.out).2.2
        rw [HLIT.out]
        go_simp
        exact hK.out _ _ (RS.next (wv := wv) (vs := vs) 23 (x := .slice (some ⟨b1, o1, none⟩) L.length sc) (by rw [HLIT.out]; simp only [upv, e21, e22, Nat.reduceBEq, cond_true, cond_false]) (by rw [HG.out]; exact j4.out) hM.out (by rw [HG.out]; exact fun _ _ h => h) (by rw [HG.out]; exact E23.out.symm))
      · intro bf ac wv hfb haf hJ K' hK
        obtain ⟨vs, rfl, hM, j4⟩ := hJ
        replace hK := Lib.hid hK
        replace hM := Lib.hid hM
        rw [HG.out] at j4
        simp [Region.binds] at haf
        have e21 := ((j4 21 (by simp [haf]))).trans E21.out
        replace j4 := Lib.hid j4
        clear haf hfb
        rw [HLIT.out]
        go_simp
        exact hK.out _ _ (RS.next (wv := wv) (vs := vs) 24 (x := .int .i64 k) (by rw [HLIT.out]; simp only [upv, e21, Nat.reduceBEq, cond_true, cond_false]) (by rw [HG.out]; exact j4.out) hM.out (by rw [HG.out]; exact fun _ _ h => h) (by rw [HG.out]; exact E24.out.symm))
      · intro bf ac wv hfb haf hJ K' hK
        obtain ⟨vs, rfl, hM, j4⟩ := hJ
        replace hK := Lib.hid hK
        replace hM := Lib.hid hM
        rw [HG.out] at j4
        simp [Region.binds] at haf
        have e21 := ((j4 21 (by simp [haf]))).trans E21.out
        have e24 := ((j4 24 (by simp [haf]))).trans E24.out
        replace j4 := Lib.hid j4
        clear haf hfb
        rw [HLIT.out]
        go_simp
        exact hK.out _ _ (RS.next (wv := wv) (vs := vs) 25 (x := .int .i64 m) (by rw [HLIT.out]; simp only [upv, e21, e24, HWK.out, Nat.reduceBEq, cond_true, cond_false]) (by rw [HG.out]; exact j4.out) hM.out (by rw [HG.out]; exact fun _ _ h => h) (by rw [HG.out]; exact E25.out.symm))
      · intro bf ac wv hfb haf hJ K' hK
        obtain ⟨vs, rfl, hM, j4⟩ := hJ
        replace hK := Lib.hid hK
        replace hM := Lib.hid hM
        rw [HG.out] at j4
        simp [Region.binds] at haf
        have e21 := ((j4 21 (by simp [haf]))).trans E21.out
        have e23 := ((j4 23 (by simp [haf]))).trans E23.out
        have e25 := ((j4 25 (by simp [haf]))).trans E25.out
        replace j4 := Lib.hid j4
        clear haf hfb
        have tm1 : (m : Int) < (L.length : Int) := HML.out
        rw [HLIT.out]
        go_simp
        exact hK.out _ _ (RS.next (wv := wv) (vs := vs) 26 (x := .pointer (some ⟨b1, o1 + m * 4, none⟩)) (by rw [HLIT.out]; simp only [upv, e21, e23, e25, Nat.reduceBEq, cond_true, cond_false]) (by rw [HG.out]; exact j4.out) hM.out (by rw [HG.out]; exact fun _ _ h => h) (by rw [HG.out]; exact E26.out.symm))
      · intro bf ac wv hfb haf hJ K' hK
        obtain ⟨vs, rfl, hM, j4⟩ := hJ
        replace hK := Lib.hid hK
        replace hM := Lib.hid hM
        rw [HG.out] at j4
        simp [Region.binds] at haf
        have e21 := ((j4 21 (by simp [haf]))).trans E21.out
        have e26 := ((j4 26 (by simp [haf]))).trans E26.out
        replace j4 := Lib.hid j4
        clear haf hfb
        rw [HLIT.out]
        go_simp
        exact hK.out _ _ (RS.next (wv := wv) (vs := vs) 27 (x := .pointer (some ⟨b1, o1 + m * 4, none⟩)) (by rw [HLIT.out]; simp only [upv, e21, e26, Nat.reduceBEq, cond_true, cond_false]) (by rw [HG.out]; exact j4.out) hM.out (by rw [HG.out]; exact fun _ _ h => h) (by rw [HG.out]; exact E27.out.symm))
      · intro bf ac wv hfb haf hJ K' hK
        obtain ⟨vs, rfl, hM, j4⟩ := hJ
        replace hK := Lib.hid hK
        replace hM := Lib.hid hM
        rw [HG.out] at j4
        simp [Region.binds] at haf
        have e21 := ((j4 21 (by simp [haf]))).trans E21.out
        have e27 := ((j4 27 (by simp [haf]))).trans E27.out
        replace j4 := Lib.hid j4
        clear haf hfb
        have q0 := (HPA.out _ hM.out)
        have qz : b1 < wv.heap.size := World.block_lt_of_cell? _ _ q0
        rw [HLIT.out]
        go_simp
        exact hK.out _ _ (RS.next (wv := wv) (vs := vs) 28 (x := .int .i64 pa) (by rw [HLIT.out]; simp only [upv, e21, e27, Nat.reduceBEq, cond_true, cond_false]) (by rw [HG.out]; exact j4.out) hM.out (by rw [HG.out]; exact fun _ _ h => h) (by rw [HG.out]; exact E28.out.symm))
      · intro bf ac wv hfb haf hJ K' hK
        obtain ⟨vs, rfl, hM, j4⟩ := hJ
        replace hK := Lib.hid hK
        replace hM := Lib.hid hM
        rw [HG.out] at j4
        simp [Region.binds] at haf
        have e21 := ((j4 21 (by simp [haf]))).trans E21.out
        replace j4 := Lib.hid j4
        clear haf hfb
        rw [HLIT.out]
        go_simp
        exact hK.out _ _ (RS.next (wv := wv) (vs := vs) 29 (x := .pointer (some ⟨wr.heap.size, 0, none⟩)) (by rw [HLIT.out]; simp only [upv, e21, Nat.reduceBEq, cond_true, cond_false]) (by rw [HG.out]; exact j4.out) hM.out (by rw [HG.out]; exact fun _ _ h => h) (by rw [HG.out]; exact E29.out.symm))
      · intro bf ac wv hfb haf hJ K' hK
        obtain ⟨vs, rfl, hM, j4⟩ := hJ
        replace hK := Lib.hid hK
        replace hM := Lib.hid hM
        rw [HG.out] at j4
        simp [Region.binds] at haf
        have e21 := ((j4 21 (by simp [haf]))).trans E21.out
        have e29 := ((j4 29 (by simp [haf]))).trans E29.out
        replace j4 := Lib.hid j4
        clear haf hfb
        have xx0 := (HO.out.step hM.out).c 0 rfl
        have xxz := (HO.out.step hM.out).2.2
        rw [HLIT.out]
        go_simp
        exact hK.out _ _ (RS.next (wv := wv) (vs := vs) 30 (x := .int .i64 xa) (by rw [HLIT.out]; simp only [upv, e21, e29, Nat.reduceBEq, cond_true, cond_false]) (by rw [HG.out]; exact j4.out) hM.out (by rw [HG.out]; exact fun _ _ h => h) (by rw [HG.out]; exact E30.out.symm))
      · intro bf ac wv hfb haf hJ K' hK
        obtain ⟨vs, rfl, hM, j4⟩ := hJ
        replace hK := Lib.hid hK
        replace hM := Lib.hid hM
        rw [HG.out] at j4
        simp [Region.binds] at haf
        have e21 := ((j4 21 (by simp [haf]))).trans E21.out
        have e28 := ((j4 28 (by simp [haf]))).trans E28.out
        have e30 := ((j4 30 (by simp [haf]))).trans E30.out
        replace j4 := Lib.hid j4
        clear haf hfb
        rw [HLIT.out]
        go_simp
        exact hK.out _ _ (RS.next (wv := wv) (vs := vs) 31 (x := .bool false) (by rw [HLIT.out]; simp only [upv, e21, e28, e30, Nat.reduceBEq, cond_true, cond_false]) (by rw [HG.out]; exact j4.out) hM.out (by rw [HG.out]; exact fun _ _ h => h) (by rw [HG.out]; exact E31.out.symm))
      · intro bf ac wv hfb haf hJ K' hK
        obtain ⟨vs, rfl, hM, j4⟩ := hJ
        replace hK := Lib.hid hK
        replace hM := Lib.hid hM
        rw [HG.out] at j4
        simp [Region.binds] at haf
        have e18 := ((j4 18 (by simp [haf]))).trans E18.out
        have e21 := ((j4 21 (by simp [haf]))).trans E21.out
        have e31 := ((j4 31 (by simp [haf]))).trans E31.out
        replace j4 := Lib.hid j4
        clear haf hfb
        rw [HLIT.out]
        go_simp
        exact hK.out _ _ (RS.next (wv := wv) (vs := vs) 32 (x := .bool false) (by rw [HLIT.out]; simp only [upv, e18, e21, e31, Nat.reduceBEq, cond_true, cond_false]) (by rw [HG.out]; exact j4.out) hM.out (by rw [HG.out]; exact fun _ _ h => h) (by rw [HG.out]; exact E32.out.symm))
      · intro bf ac wv hfb haf hJ K' hK
        obtain ⟨vs, rfl, hM, j4⟩ := hJ
        replace hK := Lib.hid hK
        replace hM := Lib.hid hM
        rw [HG.out] at j4
        simp [Region.binds] at haf
        have e18 := ((j4 18 (by simp [haf]))).trans E18.out
        have e32 := ((j4 32 (by simp [haf]))).trans E32.out
        replace j4 := Lib.hid j4
        clear haf hfb
        rw [HLIT.out]
        go_simp
        exact hK.out _ _ (RS.next (wv := wv) (vs := vs) 33 (x := .bool false) (by rw [HLIT.out]; simp only [upv, e18, e32, Nat.reduceBEq, cond_true, cond_false]) (by rw [HG.out]; exact j4.out) hM.out (by rw [HG.out]; exact fun _ _ h => h) (by rw [HG.out]; exact E33.out.symm))
    · intro bf ac wv hall hJ
      obtain ⟨vs, rfl, hM, j4⟩ := hJ
      rw [HG.out] at j4
      have hlast := ((j4 33 (hall 33 (by decide)))).trans E33.out
      clear j4 hall
      rw [HLIT.out]
      dsimp only
      rw [hlast]
      clear hlast
      have HB9 := Lib.hid (HW.out.trans ((keep2 hM HBo.out).mono HW.out.size))
      go_wp2
      go_roundw
      case rel => exact ⟨k + 1, hlt, by go_num, HN2, HB9⟩
      case measure => simp [intOf]; omega
end Go.Proofs.Ytkamkkjijjkfdaa
