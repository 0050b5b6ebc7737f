import Derived.Test.YtolinnmhdclgpaaCk
import Derived.Deep.CutRange
import Derived.Test.YtolinnmhdclgpaaIv
namespace Go.Proofs.Ytolinnmhdclgpaa
open Go.RowKit

theorem sh_add (D i : Nat) (hD : D ≤ 2000000) (hi : i ≤ 40) : wrap64 ((D : Int) + wrap64 (2 ^ i)) = ((D + 2 ^ i : Nat) : Int) := by
  have h1 : (2 : Int) ^ i = ((2 ^ i : Nat) : Int) := by push_cast; rfl
  have h2 : 2 ^ i ≤ 2 ^ 40 := Nat.pow_le_pow_right (by omega) hi
  have h3 : (2 : Nat) ^ 40 = 1099511627776 := by decide
  rw [h1]
  rw [h3] at h2
  generalize 2 ^ i = P at *
  rw [IntWalk.wrap64_in (P : Int) (by omega), IntWalk.wrap64_in _ (by omega)]
  omega
/-- An order blocks another one. -/
def blB (L : List Od) (D : Nat) (i k : Nat) : Bool := D.testBit k && (decide ((L.getD i zO).a + 16 ≤ (L.getD k zO).a) || decide ((L.getD i zO).b < (L.getD k zO).b))
/-- An order is executed. -/
def exB (L : List Od) (D : Nat) (c : Int) (i : Nat) : Bool := !D.testBit i && decide (c < (L.getD i zO).a) && (List.range L.length).all fun k => !blB L D i k
def exV (ok : Bool) (L : List Od) (i : Nat) (v : Int) : Int := if ok = true then (L.getD i zO).d else v
def exD (ok : Bool) (D i : Nat) : Nat := if ok = true then D + 2 ^ i else D
theorem exB_bit {L : List Od} {D : Nat} {c : Int} {i : Nat} (h : D.testBit i = true) : exB L D c i = false := by unfold exB; rw [h]; rfl
theorem exB_cl {L : List Od} {D : Nat} {c : Int} {i : Nat} (h : ¬ c < (L.getD i zO).a) : exB L D c i = false := by unfold exB; rw [decide_eq_false h]; simp
theorem exB_bl {L : List Od} {D : Nat} {c : Int} {i k : Nat} (hk : k < L.length) (h : blB L D i k = true) : exB L D c i = false := by
  unfold exB
  have : ((List.range L.length).all fun k => !blB L D i k) = false := by
    rw [List.all_eq_false]; exact ⟨k, List.mem_range.2 hk, by rw [h]; simp⟩
  rw [this]; simp
theorem exB_ok {L : List Od} {D : Nat} {c : Int} {i : Nat} (h1 : D.testBit i = false) (h2 : c < (L.getD i zO).a) (h3 : ∀ k, k < L.length → blB L D i k = false) : exB L D c i = true := by
  unfold exB
  rw [h1, decide_eq_true h2]
  have : ((List.range L.length).all fun k => !blB L D i k) = true := by
    rw [List.all_eq_true]; intro k hk; rw [h3 k (List.mem_range.1 hk)]; rfl
  rw [this]; rfl
def ExP (ok : Bool) (v : Int) (D : Nat) (c : Int) (w : World) (e : Ending) (w' : World) : Prop := e = .returned (.tuple #[.agg #[.int .i64 v, .int .i64 (D : Int), .int .i64 c], .bool ok]) ∧ Below w.heap.size w w'
set_option maxRecDepth 100000 in
set_option maxHeartbeats 8000000 in
theorem exec_bit (s : Value) (L : List Od) (v : Int) (D : Nat) (c : Int) (i : Nat) (hD : D ≤ 2000000) (hl : L.length ≤ 20) (hi : i < L.length) (_ : ∀ x ∈ L, -1000 ≤ x.a ∧ x.a ≤ 1000000000) (w : World) (h : OdsAt w s L) (hbt : D.testBit i = true) :
    Calls Try.prog 27 #[s, .agg #[.int .i64 v, .int .i64 (D : Int), .int .i64 c], .int .i64 (i : Int)] w (ExP false (exV false L i v) (exD false D i) c w) := by
  have HBT := Lib.hid hbt
  clear hbt
  have HL := Lib.hid h
  obtain ⟨sa, sc, rfl, -, -, -⟩ := h
  have HC := Lib.hid ((Cs.new w w.heap.size #[.int .i64 v, .int .i64 (D : Int), .int .i64 c] 44 rfl).alloc (.cells #[.int .i64 0, .int .i64 0, .int .i64 0] 44))
  have HR := Lib.hid (Cs.new (w.alloc (.cells #[.int .i64 v, .int .i64 (D : Int), .int .i64 c] 44)) (w.heap.size + 1) #[.int .i64 0, .int .i64 0, .int .i64 0] 44 (by simp))
  have HB := Lib.hid (al2 (w := w) (o1 := .cells #[.int .i64 v, .int .i64 (D : Int), .int .i64 c] 44) (o2 := .cells #[.int .i64 0, .int .i64 0, .int .i64 0] 44))
  have H9 := Lib.hid hl
  have HI := Lib.hid hi
  have HK := Lib.hid (show i ≤ 40 by omega)
  have HIJ := Lib.hid (show (i : Int) < (L.length : Int) by omega)
  clear hl
  go_enter Try.func27, Try.ntmps27
  go_upto_region 1 with fail
  obtain ⟨wq, hwq⟩ : ∃ z, (w.alloc (.cells #[.int .i64 v, .int .i64 (D : Int), .int .i64 c] 44)).alloc (.cells #[.int .i64 0, .int .i64 0, .int .i64 0] 44) = z := ⟨_, rfl⟩
  rw [hwq] at HC HR HB ⊢
  clear hwq
  obtain ⟨a1, cc1, hv1, -, -, hcs1⟩ := HL.out.step HB.out
  obtain ⟨rfl, rfl⟩ : sa = a1 ∧ sc = cc1 := by simpa using hv1
  obtain ⟨b1, o1, rfl, hx1⟩ := hcs1 (by intro e; have := HI.out; rw [e] at this; simp at this)
  obtain ⟨y0, y1, -, y3⟩ := hx1 i _ (od_get HI.out)
  have HY0 := Lib.hid y0
  have HY1 := Lib.hid y1
  have HY3 := Lib.hid y3
  clear hcs1 hx1 hv1 y0 y1 y3
  obtain ⟨A, hA⟩ : ∃ z, (L.getD i zO).a = z := ⟨_, rfl⟩
  rw [hA] at HY0
  have HAA := Lib.hid hA
  clear hA
  obtain ⟨lit, hlit⟩ : ∃ lit : (Nat → Value) → Act, lit = fun vs => { tmps := List.toArray (Value.slice (some { block := b1, off := o1 }) L.length sc :: Value.agg #[Value.int IntKind.i64 v, Value.int IntKind.i64 (D : Int), Value.int IntKind.i64 c] :: Value.int IntKind.i64 (i : Int) :: undef :: Value.pointer (some { block := w.heap.size, off := 0 }) :: undef :: Value.pointer (some { block := w.heap.size + 1, off := 0 }) :: Value.bool false :: undef :: vs 0 :: vs 1 :: vs 2 :: vs 3 :: vs 4 :: vs 5 :: vs 6 :: vs 7 :: vs 8 :: vs 9 :: vs 10 :: vs 11 :: vs 12 :: undef :: undef :: undef :: undef :: undef :: undef :: undef :: undef :: undef :: undef :: undef :: undef :: undef :: undef :: undef :: undef :: undef :: undef :: undef :: undef :: undef :: undef :: undef :: undef :: undef :: undef :: undef :: undef :: undef :: undef :: undef :: undef :: undef :: undef :: undef :: undef :: undef :: undef :: undef :: undef :: undef :: undef :: undef :: undef :: undef :: undef :: undef :: undef :: undef :: undef :: undef :: undef :: []), defers := [] } := ⟨_, rfl⟩
  have HLIT := Lib.hid hlit
  clear hlit
  obtain ⟨val, hval⟩ : ∃ val : List Value, val = [.agg #[.int .i64 v, .int .i64 (D : Int), .int .i64 c], .int .i64 (i : Int), .bool true, .bool true, undef, undef, undef, undef, undef, undef, undef, undef, .bool true] := ⟨_, rfl⟩
  have E0 := Lib.hid (show val.getD 0 undef = .agg #[.int .i64 v, .int .i64 (D : Int), .int .i64 c] by rw [hval]; rfl)
  have E1 := Lib.hid (show val.getD 1 undef = .int .i64 (i : Int) by rw [hval]; rfl)
  have E2 := Lib.hid (show val.getD 2 undef = .bool true by rw [hval]; rfl)
  have E3 := Lib.hid (show val.getD 3 undef = .bool true by rw [hval]; rfl)
  have E4 := Lib.hid (show val.getD 4 undef = undef by rw [hval]; rfl)
  have E5 := Lib.hid (show val.getD 5 undef = undef by rw [hval]; rfl)
  have E6 := Lib.hid (show val.getD 6 undef = undef by rw [hval]; rfl)
  have E7 := Lib.hid (show val.getD 7 undef = undef by rw [hval]; rfl)
  have E8 := Lib.hid (show val.getD 8 undef = undef by rw [hval]; rfl)
  have E9 := Lib.hid (show val.getD 9 undef = undef by rw [hval]; rfl)
  have E10 := Lib.hid (show val.getD 10 undef = undef by rw [hval]; rfl)
  have E11 := Lib.hid (show val.getD 11 undef = undef by rw [hval]; rfl)
  have E12 := Lib.hid (show val.getD 12 undef = .bool true by rw [hval]; rfl)
  clear hval
  obtain ⟨G, hG0⟩ : ∃ G : Nat → Value → World → Prop, G = (fun i v w => (v = val.getD i undef)) := ⟨_, rfl⟩
  have HG := Lib.hid hG0
  clear hG0
  refine region_inv (RS lit wq G) (by kernel_rfl) (by decide +kernel) ?_ ?_ ?_
  · exact ⟨fun i => ([undef, undef, undef, undef, undef, undef, undef, undef, undef, undef, undef, undef, undef] : List Value).getD i undef, (by rw [HLIT.out]; rfl), below_drew _ _, fun i h => by cases h⟩
  · refine ⟨?_, ?_, ?_, ?_, ?_, ?_, ?_, ?_, ?_, ?_, ?_, ?_, ?_, trivial⟩
    · intro bf ac wv hfb haf hJ K' hK
      obtain ⟨vs, rfl, hM, j4⟩ := hJ
      replace hK := Lib.hid hK
      replace hM := Lib.hid hM
      rw [HG.out] at j4
      replace j4 := Lib.hid j4
      clear haf hfb
      have xx := HC.out.step hM.out
      have xx0 := xx.c 0 rfl
      have xx1 := xx.c 1 rfl
      have xx2 := xx.c 2 rfl
      have xxz := xx.2.2
      clear xx
      rw [HLIT.out]
      go_simp
      exact hK.out _ _ (RS.next (wv := wv) (vs := vs) 0 (x := .agg #[.int .i64 v, .int .i64 (D : Int), .int .i64 c]) (by rw [HLIT.out]; rfl) (by rw [HG.out]; exact j4.out) hM.out (by rw [HG.out]; exact fun _ _ h => h) (by rw [HG.out]; exact E0.out.symm))
    · intro bf ac wv hfb haf hJ K' hK
      obtain ⟨vs, rfl, hM, j4⟩ := hJ
      replace hK := Lib.hid hK
      replace hM := Lib.hid hM
      rw [HG.out] at j4
      replace j4 := Lib.hid j4
      clear haf hfb
      rw [HLIT.out]
      go_simp
      exact hK.out _ _ (RS.next (wv := wv) (vs := vs) 1 (x := .int .i64 (i : Int)) (by rw [HLIT.out]; rfl) (by rw [HG.out]; exact j4.out) hM.out (by rw [HG.out]; exact fun _ _ h => h) (by rw [HG.out]; exact E1.out.symm))
    · intro bf ac wv hfb haf hJ K' hK
      obtain ⟨vs, rfl, hM, j4⟩ := hJ
      replace hK := Lib.hid hK
      replace hM := Lib.hid hM
      rw [HG.out] at j4
      simp [Region.binds] at haf
      have e0 := ((j4 0 (by simp [haf]))).trans E0.out
      have e1 := ((j4 1 (by simp [haf]))).trans E1.out
      replace j4 := Lib.hid j4
      clear haf hfb
      rw [HLIT.out]
      go_simp
      go_at_call 28
      refine (done_any _ _ D i hD HK.out _).mono ?_
      rintro e w4 ⟨rfl, b4⟩
      rw [HBT.out]
      exact hK.out _ _ (RS.next (wv := wv) (vs := vs) 2 (x := .bool true) (by rw [HLIT.out]; simp only [upv, e0, e1, Nat.reduceBEq, cond_true, cond_false]) (by rw [HG.out]; exact j4.out) (keep2 b4 hM.out) (by rw [HG.out]; exact fun _ _ h => h) (by rw [HG.out]; exact E2.out.symm))
    · intro bf ac wv hfb haf hJ K' hK
      obtain ⟨vs, rfl, hM, j4⟩ := hJ
      replace hK := Lib.hid hK
      replace hM := Lib.hid hM
      rw [HG.out] at j4
      simp [Region.binds] at haf
      have e2 := ((j4 2 (by simp [haf]))).trans E2.out
      replace j4 := Lib.hid j4
      clear haf hfb
      rw [HLIT.out]
      go_simp
      exact hK.out _ _ (RS.next (wv := wv) (vs := vs) 3 (x := .bool true) (by rw [HLIT.out]; simp only [upv, e2, Nat.reduceBEq, cond_true, cond_false]) (by rw [HG.out]; exact j4.out) hM.out (by rw [HG.out]; exact fun _ _ h => h) (by rw [HG.out]; exact E3.out.symm))
    · intro bf ac wv hfb haf hJ K' hK
      obtain ⟨vs, rfl, hM, j4⟩ := hJ
      replace hK := Lib.hid hK
      replace hM := Lib.hid hM
      rw [HG.out] at j4
      simp [Region.binds] at haf
      have e3 := ((j4 3 (by simp [haf]))).trans E3.out
      replace j4 := Lib.hid j4
      clear haf hfb
      rw [HLIT.out]
      go_simp
      exact hK.out _ _ (RS.next (wv := wv) (vs := vs) 4 (x := undef) (by rw [HLIT.out]; simp only [upv, e3, Nat.reduceBEq, cond_true, cond_false]) (by rw [HG.out]; exact j4.out) hM.out (by rw [HG.out]; exact fun _ _ h => h) (by rw [HG.out]; exact E4.out.symm))
    · intro bf ac wv hfb haf hJ K' hK
      obtain ⟨vs, rfl, hM, j4⟩ := hJ
      replace hK := Lib.hid hK
      replace hM := Lib.hid hM
      rw [HG.out] at j4
      simp [Region.binds] at haf
      have e3 := ((j4 3 (by simp [haf]))).trans E3.out
      replace j4 := Lib.hid j4
      clear haf hfb
      rw [HLIT.out]
      go_simp
      exact hK.out _ _ (RS.next (wv := wv) (vs := vs) 5 (x := undef) (by rw [HLIT.out]; simp only [upv, e3, Nat.reduceBEq, cond_true, cond_false]) (by rw [HG.out]; exact j4.out) hM.out (by rw [HG.out]; exact fun _ _ h => h) (by rw [HG.out]; exact E5.out.symm))
    · intro bf ac wv hfb haf hJ K' hK
      obtain ⟨vs, rfl, hM, j4⟩ := hJ
      replace hK := Lib.hid hK
      replace hM := Lib.hid hM
      rw [HG.out] at j4
      simp [Region.binds] at haf
      have e3 := ((j4 3 (by simp [haf]))).trans E3.out
      replace j4 := Lib.hid j4
      clear haf hfb
      rw [HLIT.out]
      go_simp
      exact hK.out _ _ (RS.next (wv := wv) (vs := vs) 6 (x := undef) (by rw [HLIT.out]; simp only [upv, e3, Nat.reduceBEq, cond_true, cond_false]) (by rw [HG.out]; exact j4.out) hM.out (by rw [HG.out]; exact fun _ _ h => h) (by rw [HG.out]; exact E6.out.symm))
    · intro bf ac wv hfb haf hJ K' hK
      obtain ⟨vs, rfl, hM, j4⟩ := hJ
      replace hK := Lib.hid hK
      replace hM := Lib.hid hM
      rw [HG.out] at j4
      simp [Region.binds] at haf
      have e3 := ((j4 3 (by simp [haf]))).trans E3.out
      replace j4 := Lib.hid j4
      clear haf hfb
      rw [HLIT.out]
      go_simp
      exact hK.out _ _ (RS.next (wv := wv) (vs := vs) 7 (x := undef) (by rw [HLIT.out]; simp only [upv, e3, Nat.reduceBEq, cond_true, cond_false]) (by rw [HG.out]; exact j4.out) hM.out (by rw [HG.out]; exact fun _ _ h => h) (by rw [HG.out]; exact E7.out.symm))
    · intro bf ac wv hfb haf hJ K' hK
      obtain ⟨vs, rfl, hM, j4⟩ := hJ
      replace hK := Lib.hid hK
      replace hM := Lib.hid hM
      rw [HG.out] at j4
      simp [Region.binds] at haf
      have e3 := ((j4 3 (by simp [haf]))).trans E3.out
      replace j4 := Lib.hid j4
      clear haf hfb
      rw [HLIT.out]
      go_simp
      exact hK.out _ _ (RS.next (wv := wv) (vs := vs) 8 (x := undef) (by rw [HLIT.out]; simp only [upv, e3, Nat.reduceBEq, cond_true, cond_false]) (by rw [HG.out]; exact j4.out) hM.out (by rw [HG.out]; exact fun _ _ h => h) (by rw [HG.out]; exact E8.out.symm))
    · intro bf ac wv hfb haf hJ K' hK
      obtain ⟨vs, rfl, hM, j4⟩ := hJ
      replace hK := Lib.hid hK
      replace hM := Lib.hid hM
      rw [HG.out] at j4
      simp [Region.binds] at haf
      have e3 := ((j4 3 (by simp [haf]))).trans E3.out
      replace j4 := Lib.hid j4
      clear haf hfb
      rw [HLIT.out]
      go_simp
      exact hK.out _ _ (RS.next (wv := wv) (vs := vs) 9 (x := undef) (by rw [HLIT.out]; simp only [upv, e3, Nat.reduceBEq, cond_true, cond_false]) (by rw [HG.out]; exact j4.out) hM.out (by rw [HG.out]; exact fun _ _ h => h) (by rw [HG.out]; exact E9.out.symm))
    · intro bf ac wv hfb haf hJ K' hK
      obtain ⟨vs, rfl, hM, j4⟩ := hJ
      replace hK := Lib.hid hK
      replace hM := Lib.hid hM
      rw [HG.out] at j4
      simp [Region.binds] at haf
      have e3 := ((j4 3 (by simp [haf]))).trans E3.out
      replace j4 := Lib.hid j4
      clear haf hfb
      rw [HLIT.out]
      go_simp
      exact hK.out _ _ (RS.next (wv := wv) (vs := vs) 10 (x := undef) (by rw [HLIT.out]; simp only [upv, e3, Nat.reduceBEq, cond_true, cond_false]) (by rw [HG.out]; exact j4.out) hM.out (by rw [HG.out]; exact fun _ _ h => h) (by rw [HG.out]; exact E10.out.symm))
    · intro bf ac wv hfb haf hJ K' hK
      obtain ⟨vs, rfl, hM, j4⟩ := hJ
      replace hK := Lib.hid hK
      replace hM := Lib.hid hM
      rw [HG.out] at j4
      simp [Region.binds] at haf
      have e3 := ((j4 3 (by simp [haf]))).trans E3.out
      replace j4 := Lib.hid j4
      clear haf hfb
      rw [HLIT.out]
      go_simp
      exact hK.out _ _ (RS.next (wv := wv) (vs := vs) 11 (x := undef) (by rw [HLIT.out]; simp only [upv, e3, Nat.reduceBEq, cond_true, cond_false]) (by rw [HG.out]; exact j4.out) hM.out (by rw [HG.out]; exact fun _ _ h => h) (by rw [HG.out]; exact E11.out.symm))
    · intro bf ac wv hfb haf hJ K' hK
      obtain ⟨vs, rfl, hM, j4⟩ := hJ
      replace hK := Lib.hid hK
      replace hM := Lib.hid hM
      rw [HG.out] at j4
      simp [Region.binds] at haf
      have e3 := ((j4 3 (by simp [haf]))).trans E3.out
      have e11 := ((j4 11 (by simp [haf]))).trans E11.out
      replace j4 := Lib.hid j4
      clear haf hfb
      rw [HLIT.out]
      go_simp
      exact hK.out _ _ (RS.next (wv := wv) (vs := vs) 12 (x := .bool true) (by rw [HLIT.out]; simp only [upv, e3, e11, Nat.reduceBEq, cond_true, cond_false]) (by rw [HG.out]; exact j4.out) hM.out (by rw [HG.out]; exact fun _ _ h => h) (by rw [HG.out]; exact E12.out.symm))
  · intro bf ac wv hall hJ
    obtain ⟨vs, rfl, hM, j4⟩ := hJ
    rw [HG.out] at j4
    have hlast := ((j4 12 (hall 12 (by decide)))).trans E12.out
    clear j4 hall
    rw [HLIT.out]
    dsimp only
    rw [hlast]
    clear hlast
    have HC2 := Lib.hid (HC.out.step hM)
    have HR2 := Lib.hid (HR.out.step hM)
    have HB2 := Lib.hid (keep2 hM HB.out)
    clear hM
    have c0 := HC2.out.c 0 rfl
    have c1 := HC2.out.c 1 rfl
    have c2 := HC2.out.c 2 rfl
    have cz := HC2.out.2.2
    have r0 := HR2.out.c 0 rfl
    have r1 := HR2.out.c 1 rfl
    have r2 := HR2.out.c 2 rfl
    have q0 := HR2.out.f 0 (by simp)
    have q1 := HR2.out.f 1 (by simp)
    have q2 := HR2.out.f 2 (by simp)
    have rz := HR2.out.2.2
    go_wp2
    refine (fun (h : ∀ X : World, Cs X (w.heap.size + 1) #[.int .i64 v, .int .i64 (D : Int), .int .i64 c] → Below w.heap.size w X → bodyPost Try.prog Try.f27 _ Exit.ret _ X) => h _ (Cs.set (Cs.set (Cs.set HR2.out 0 (by simp) (.int .i64 v) rfl) 1 (by simp) (.int .i64 (D : Int)) rfl) 2 (by simp) (.int .i64 c) (vs' := #[.int .i64 v, .int .i64 (D : Int), .int .i64 c]) rfl) (((HB2.out.setCell (p := ⟨w.heap.size + 1, 0, none⟩) (by simp) _).setCell (p := ⟨w.heap.size + 1, 1, none⟩) (by simp) _).setCell (p := ⟨w.heap.size + 1, 2, none⟩) (by simp) _)) ?_
    intro X hX hXB
    have k0 : X.cell? ⟨w.heap.size + 1, 0, none⟩ = some (.int .i64 v) := hX.c 0 rfl
    have k1 : X.cell? ⟨w.heap.size + 1, 1, none⟩ = some (.int .i64 (D : Int)) := hX.c 1 rfl
    have k2 : X.cell? ⟨w.heap.size + 1, 2, none⟩ = some (.int .i64 c) := hX.c 2 rfl
    exact bodyPost_ret (v := .tuple #[.agg #[.int .i64 v, .int .i64 (D : Int), .int .i64 c], .bool false]) (by simp [results, Try.results27, go_sem, k0, k1, k2]) rfl ⟨rfl, hXB⟩
set_option maxRecDepth 100000 in
set_option maxHeartbeats 8000000 in
theorem exec_cl (s : Value) (L : List Od) (v : Int) (D : Nat) (c : Int) (i : Nat) (hD : D ≤ 2000000) (hl : L.length ≤ 20) (hi : i < L.length) (_ : ∀ x ∈ L, -1000 ≤ x.a ∧ x.a ≤ 1000000000) (w : World) (h : OdsAt w s L) (hbt : D.testBit i = false) (hcl : ¬ c < (L.getD i zO).a) :
    Calls Try.prog 27 #[s, .agg #[.int .i64 v, .int .i64 (D : Int), .int .i64 c], .int .i64 (i : Int)] w (ExP false (exV false L i v) (exD false D i) c w) := by
  have HBT := Lib.hid hbt
  have HCL := Lib.hid hcl
  clear hbt hcl
  have HL := Lib.hid h
  obtain ⟨sa, sc, rfl, -, -, -⟩ := h
  have HC := Lib.hid ((Cs.new w w.heap.size #[.int .i64 v, .int .i64 (D : Int), .int .i64 c] 44 rfl).alloc (.cells #[.int .i64 0, .int .i64 0, .int .i64 0] 44))
  have HR := Lib.hid (Cs.new (w.alloc (.cells #[.int .i64 v, .int .i64 (D : Int), .int .i64 c] 44)) (w.heap.size + 1) #[.int .i64 0, .int .i64 0, .int .i64 0] 44 (by simp))
  have HB := Lib.hid (al2 (w := w) (o1 := .cells #[.int .i64 v, .int .i64 (D : Int), .int .i64 c] 44) (o2 := .cells #[.int .i64 0, .int .i64 0, .int .i64 0] 44))
  have H9 := Lib.hid hl
  have HI := Lib.hid hi
  have HK := Lib.hid (show i ≤ 40 by omega)
  have HIJ := Lib.hid (show (i : Int) < (L.length : Int) by omega)
  clear hl
  go_enter Try.func27, Try.ntmps27
  go_upto_region 1 with fail
  obtain ⟨wq, hwq⟩ : ∃ z, (w.alloc (.cells #[.int .i64 v, .int .i64 (D : Int), .int .i64 c] 44)).alloc (.cells #[.int .i64 0, .int .i64 0, .int .i64 0] 44) = z := ⟨_, rfl⟩
  rw [hwq] at HC HR HB ⊢
  clear hwq
  obtain ⟨a1, cc1, hv1, -, -, hcs1⟩ := HL.out.step HB.out
  obtain ⟨rfl, rfl⟩ : sa = a1 ∧ sc = cc1 := by simpa using hv1
  obtain ⟨b1, o1, rfl, hx1⟩ := hcs1 (by intro e; have := HI.out; rw [e] at this; simp at this)
  obtain ⟨y0, y1, -, y3⟩ := hx1 i _ (od_get HI.out)
  have HY0 := Lib.hid y0
  have HY1 := Lib.hid y1
  have HY3 := Lib.hid y3
  clear hcs1 hx1 hv1 y0 y1 y3
  obtain ⟨A, hA⟩ : ∃ z, (L.getD i zO).a = z := ⟨_, rfl⟩
  rw [hA] at HY0 HCL
  have HAA := Lib.hid hA
  clear hA
  have g1 : decide (A ≤ c) = true := decide_eq_true (by have := HCL.out; omega)
  obtain ⟨lit, hlit⟩ : ∃ lit : (Nat → Value) → Act, lit = fun vs => { tmps := List.toArray (Value.slice (some { block := b1, off := o1 }) L.length sc :: Value.agg #[Value.int IntKind.i64 v, Value.int IntKind.i64 (D : Int), Value.int IntKind.i64 c] :: Value.int IntKind.i64 (i : Int) :: undef :: Value.pointer (some { block := w.heap.size, off := 0 }) :: undef :: Value.pointer (some { block := w.heap.size + 1, off := 0 }) :: Value.bool false :: undef :: vs 0 :: vs 1 :: vs 2 :: vs 3 :: vs 4 :: vs 5 :: vs 6 :: vs 7 :: vs 8 :: vs 9 :: vs 10 :: vs 11 :: vs 12 :: undef :: undef :: undef :: undef :: undef :: undef :: undef :: undef :: undef :: undef :: undef :: undef :: undef :: undef :: undef :: undef :: undef :: undef :: undef :: undef :: undef :: undef :: undef :: undef :: undef :: undef :: undef :: undef :: undef :: undef :: undef :: undef :: undef :: undef :: undef :: undef :: undef :: undef :: undef :: undef :: undef :: undef :: undef :: undef :: undef :: undef :: undef :: undef :: undef :: undef :: undef :: undef :: []), defers := [] } := ⟨_, rfl⟩
  have HLIT := Lib.hid hlit
  clear hlit
  obtain ⟨val, hval⟩ : ∃ val : List Value, val = [.agg #[.int .i64 v, .int .i64 (D : Int), .int .i64 c], .int .i64 (i : Int), .bool false, .bool false, .slice (some ⟨b1, o1, none⟩) L.length sc, .int .i64 (i : Int), .pointer (some ⟨b1, o1 + i * 4, none⟩), .pointer (some ⟨b1, o1 + i * 4, none⟩), .int .i64 A, .pointer (some ⟨w.heap.size, 2, none⟩), .int .i64 c, .bool true, .bool true] := ⟨_, rfl⟩
  have E0 := Lib.hid (show val.getD 0 undef = .agg #[.int .i64 v, .int .i64 (D : Int), .int .i64 c] by rw [hval]; rfl)
  have E1 := Lib.hid (show val.getD 1 undef = .int .i64 (i : Int) by rw [hval]; rfl)
  have E2 := Lib.hid (show val.getD 2 undef = .bool false by rw [hval]; rfl)
  have E3 := Lib.hid (show val.getD 3 undef = .bool false by rw [hval]; rfl)
  have E4 := Lib.hid (show val.getD 4 undef = .slice (some ⟨b1, o1, none⟩) L.length sc by rw [hval]; rfl)
  have E5 := Lib.hid (show val.getD 5 undef = .int .i64 (i : Int) by rw [hval]; rfl)
  have E6 := Lib.hid (show val.getD 6 undef = .pointer (some ⟨b1, o1 + i * 4, none⟩) by rw [hval]; rfl)
  have E7 := Lib.hid (show val.getD 7 undef = .pointer (some ⟨b1, o1 + i * 4, none⟩) by rw [hval]; rfl)
  have E8 := Lib.hid (show val.getD 8 undef = .int .i64 A by rw [hval]; rfl)
  have E9 := Lib.hid (show val.getD 9 undef = .pointer (some ⟨w.heap.size, 2, none⟩) by rw [hval]; rfl)
  have E10 := Lib.hid (show val.getD 10 undef = .int .i64 c by rw [hval]; rfl)
  have E11 := Lib.hid (show val.getD 11 undef = .bool true by rw [hval]; rfl)
  have E12 := Lib.hid (show val.getD 12 undef = .bool true by rw [hval]; rfl)
  clear hval
  obtain ⟨G, hG0⟩ : ∃ G : Nat → Value → World → Prop, G = (fun i v w => (v = val.getD i undef)) := ⟨_, rfl⟩
  have HG := Lib.hid hG0
  clear hG0
  refine region_inv (RS lit wq G) (by kernel_rfl) (by decide +kernel) ?_ ?_ ?_
  · exact ⟨fun i => ([undef, undef, undef, undef, undef, undef, undef, undef, undef, undef, undef, undef, undef] : List Value).getD i undef, (by rw [HLIT.out]; rfl), below_drew _ _, fun i h => by cases h⟩
  · refine ⟨?_, ?_, ?_, ?_, ?_, ?_, ?_, ?_, ?_, ?_, ?_, ?_, ?_, trivial⟩
    · intro bf ac wv hfb haf hJ K' hK
      obtain ⟨vs, rfl, hM, j4⟩ := hJ
      replace hK := Lib.hid hK
      replace hM := Lib.hid hM
      rw [HG.out] at j4
      replace j4 := Lib.hid j4
      clear haf hfb
      have xx := HC.out.step hM.out
      have xx0 := xx.c 0 rfl
      have xx1 := xx.c 1 rfl
      have xx2 := xx.c 2 rfl
      have xxz := xx.2.2
      clear xx
      rw [HLIT.out]
      go_simp
      exact hK.out _ _ (RS.next (wv := wv) (vs := vs) 0 (x := .agg #[.int .i64 v, .int .i64 (D : Int), .int .i64 c]) (by rw [HLIT.out]; rfl) (by rw [HG.out]; exact j4.out) hM.out (by rw [HG.out]; exact fun _ _ h => h) (by rw [HG.out]; exact E0.out.symm))
    · intro bf ac wv hfb haf hJ K' hK
      obtain ⟨vs, rfl, hM, j4⟩ := hJ
      replace hK := Lib.hid hK
      replace hM := Lib.hid hM
      rw [HG.out] at j4
      replace j4 := Lib.hid j4
      clear haf hfb
      rw [HLIT.out]
      go_simp
      exact hK.out _ _ (RS.next (wv := wv) (vs := vs) 1 (x := .int .i64 (i : Int)) (by rw [HLIT.out]; rfl) (by rw [HG.out]; exact j4.out) hM.out (by rw [HG.out]; exact fun _ _ h => h) (by rw [HG.out]; exact E1.out.symm))
    · intro bf ac wv hfb haf hJ K' hK
      obtain ⟨vs, rfl, hM, j4⟩ := hJ
      replace hK := Lib.hid hK
      replace hM := Lib.hid hM
      rw [HG.out] at j4
      simp [Region.binds] at haf
      have e0 := ((j4 0 (by simp [haf]))).trans E0.out
      have e1 := ((j4 1 (by simp [haf]))).trans E1.out
      replace j4 := Lib.hid j4
      clear haf hfb
      rw [HLIT.out]
      go_simp
      go_at_call 28
      refine (done_any _ _ D i hD HK.out _).mono ?_
      rintro e w4 ⟨rfl, b4⟩
      rw [HBT.out]
      exact hK.out _ _ (RS.next (wv := wv) (vs := vs) 2 (x := .bool false) (by rw [HLIT.out]; simp only [upv, e0, e1, Nat.reduceBEq, cond_true, cond_false]) (by rw [HG.out]; exact j4.out) (keep2 b4 hM.out) (by rw [HG.out]; exact fun _ _ h => h) (by rw [HG.out]; exact E2.out.symm))
    · intro bf ac wv hfb haf hJ K' hK
      obtain ⟨vs, rfl, hM, j4⟩ := hJ
      replace hK := Lib.hid hK
      replace hM := Lib.hid hM
      rw [HG.out] at j4
      simp [Region.binds] at haf
      have e2 := ((j4 2 (by simp [haf]))).trans E2.out
      replace j4 := Lib.hid j4
      clear haf hfb
      rw [HLIT.out]
      go_simp
      exact hK.out _ _ (RS.next (wv := wv) (vs := vs) 3 (x := .bool false) (by rw [HLIT.out]; simp only [upv, e2, Nat.reduceBEq, cond_true, cond_false]) (by rw [HG.out]; exact j4.out) hM.out (by rw [HG.out]; exact fun _ _ h => h) (by rw [HG.out]; exact E3.out.symm))
    · intro bf ac wv hfb haf hJ K' hK
      obtain ⟨vs, rfl, hM, j4⟩ := hJ
      replace hK := Lib.hid hK
      replace hM := Lib.hid hM
      rw [HG.out] at j4
      simp [Region.binds] at haf
      have e3 := ((j4 3 (by simp [haf]))).trans E3.out
      replace j4 := Lib.hid j4
      clear haf hfb
      rw [HLIT.out]
      go_simp
      exact hK.out _ _ (RS.next (wv := wv) (vs := vs) 4 (x := .slice (some ⟨b1, o1, none⟩) L.length sc) (by rw [HLIT.out]; simp only [upv, e3, Nat.reduceBEq, cond_true, cond_false]) (by rw [HG.out]; exact j4.out) hM.out (by rw [HG.out]; exact fun _ _ h => h) (by rw [HG.out]; exact E4.out.symm))
    · intro bf ac wv hfb haf hJ K' hK
      obtain ⟨vs, rfl, hM, j4⟩ := hJ
      replace hK := Lib.hid hK
      replace hM := Lib.hid hM
      rw [HG.out] at j4
      simp [Region.binds] at haf
      have e3 := ((j4 3 (by simp [haf]))).trans E3.out
      replace j4 := Lib.hid j4
      clear haf hfb
      rw [HLIT.out]
      go_simp
      exact hK.out _ _ (RS.next (wv := wv) (vs := vs) 5 (x := .int .i64 (i : Int)) (by rw [HLIT.out]; simp only [upv, e3, Nat.reduceBEq, cond_true, cond_false]) (by rw [HG.out]; exact j4.out) hM.out (by rw [HG.out]; exact fun _ _ h => h) (by rw [HG.out]; exact E5.out.symm))
    · intro bf ac wv hfb haf hJ K' hK
      obtain ⟨vs, rfl, hM, j4⟩ := hJ
      replace hK := Lib.hid hK
      replace hM := Lib.hid hM
      rw [HG.out] at j4
      simp [Region.binds] at haf
      have e3 := ((j4 3 (by simp [haf]))).trans E3.out
      have e4 := ((j4 4 (by simp [haf]))).trans E4.out
      have e5 := ((j4 5 (by simp [haf]))).trans E5.out
      replace j4 := Lib.hid j4
      clear haf hfb
      have hij := HIJ.out
      rw [HLIT.out]
      go_simp
      exact hK.out _ _ (RS.next (wv := wv) (vs := vs) 6 (x := .pointer (some ⟨b1, o1 + i * 4, none⟩)) (by rw [HLIT.out]; simp only [upv, e3, e4, e5, Nat.reduceBEq, cond_true, cond_false]) (by rw [HG.out]; exact j4.out) hM.out (by rw [HG.out]; exact fun _ _ h => h) (by rw [HG.out]; exact E6.out.symm))
    · intro bf ac wv hfb haf hJ K' hK
      obtain ⟨vs, rfl, hM, j4⟩ := hJ
      replace hK := Lib.hid hK
      replace hM := Lib.hid hM
      rw [HG.out] at j4
      simp [Region.binds] at haf
      have e3 := ((j4 3 (by simp [haf]))).trans E3.out
      have e6 := ((j4 6 (by simp [haf]))).trans E6.out
      replace j4 := Lib.hid j4
      clear haf hfb
      rw [HLIT.out]
      go_simp
      exact hK.out _ _ (RS.next (wv := wv) (vs := vs) 7 (x := .pointer (some ⟨b1, o1 + i * 4, none⟩)) (by rw [HLIT.out]; simp only [upv, e3, e6, Nat.reduceBEq, cond_true, cond_false]) (by rw [HG.out]; exact j4.out) hM.out (by rw [HG.out]; exact fun _ _ h => h) (by rw [HG.out]; exact E7.out.symm))
    · intro bf ac wv hfb haf hJ K' hK
      obtain ⟨vs, rfl, hM, j4⟩ := hJ
      replace hK := Lib.hid hK
      replace hM := Lib.hid hM
      rw [HG.out] at j4
      simp [Region.binds] at haf
      have e3 := ((j4 3 (by simp [haf]))).trans E3.out
      have e7 := ((j4 7 (by simp [haf]))).trans E7.out
      replace j4 := Lib.hid j4
      clear haf hfb
      have yA := keep1 hM.out HY0.out
      have yAz := World.block_lt_of_cell? _ _ yA
      rw [HLIT.out]
      go_simp
      exact hK.out _ _ (RS.next (wv := wv) (vs := vs) 8 (x := .int .i64 A) (by rw [HLIT.out]; simp only [upv, e3, e7, Nat.reduceBEq, cond_true, cond_false]) (by rw [HG.out]; exact j4.out) hM.out (by rw [HG.out]; exact fun _ _ h => h) (by rw [HG.out]; exact E8.out.symm))
    · intro bf ac wv hfb haf hJ K' hK
      obtain ⟨vs, rfl, hM, j4⟩ := hJ
      replace hK := Lib.hid hK
      replace hM := Lib.hid hM
      rw [HG.out] at j4
      simp [Region.binds] at haf
      have e3 := ((j4 3 (by simp [haf]))).trans E3.out
      replace j4 := Lib.hid j4
      clear haf hfb
      rw [HLIT.out]
      go_simp
      exact hK.out _ _ (RS.next (wv := wv) (vs := vs) 9 (x := .pointer (some ⟨w.heap.size, 2, none⟩)) (by rw [HLIT.out]; simp only [upv, e3, Nat.reduceBEq, cond_true, cond_false]) (by rw [HG.out]; exact j4.out) hM.out (by rw [HG.out]; exact fun _ _ h => h) (by rw [HG.out]; exact E9.out.symm))
    · intro bf ac wv hfb haf hJ K' hK
      obtain ⟨vs, rfl, hM, j4⟩ := hJ
      replace hK := Lib.hid hK
      replace hM := Lib.hid hM
      rw [HG.out] at j4
      simp [Region.binds] at haf
      have e3 := ((j4 3 (by simp [haf]))).trans E3.out
      have e9 := ((j4 9 (by simp [haf]))).trans E9.out
      replace j4 := Lib.hid j4
      clear haf hfb
      have xx := HC.out.step hM.out
      have xx2 := xx.c 2 rfl
      have xxz := xx.2.2
      clear xx
      rw [HLIT.out]
      go_simp
      exact hK.out _ _ (RS.next (wv := wv) (vs := vs) 10 (x := .int .i64 c) (by rw [HLIT.out]; simp only [upv, e3, e9, Nat.reduceBEq, cond_true, cond_false]) (by rw [HG.out]; exact j4.out) hM.out (by rw [HG.out]; exact fun _ _ h => h) (by rw [HG.out]; exact E10.out.symm))
    · intro bf ac wv hfb haf hJ K' hK
      obtain ⟨vs, rfl, hM, j4⟩ := hJ
      replace hK := Lib.hid hK
      replace hM := Lib.hid hM
      rw [HG.out] at j4
      simp [Region.binds] at haf
      have e3 := ((j4 3 (by simp [haf]))).trans E3.out
      have e8 := ((j4 8 (by simp [haf]))).trans E8.out
      have e10 := ((j4 10 (by simp [haf]))).trans E10.out
      replace j4 := Lib.hid j4
      clear haf hfb
      rw [HLIT.out]
      go_simp
      exact hK.out _ _ (RS.next (wv := wv) (vs := vs) 11 (x := .bool true) (by rw [HLIT.out]; simp only [upv, e3, e8, e10, Nat.reduceBEq, cond_true, cond_false]) (by rw [HG.out]; exact j4.out) hM.out (by rw [HG.out]; exact fun _ _ h => h) (by rw [HG.out]; exact E11.out.symm))
    · intro bf ac wv hfb haf hJ K' hK
      obtain ⟨vs, rfl, hM, j4⟩ := hJ
      replace hK := Lib.hid hK
      replace hM := Lib.hid hM
      rw [HG.out] at j4
      simp [Region.binds] at haf
      have e3 := ((j4 3 (by simp [haf]))).trans E3.out
      have e11 := ((j4 11 (by simp [haf]))).trans E11.out
      replace j4 := Lib.hid j4
      clear haf hfb
      rw [HLIT.out]
      go_simp
      exact hK.out _ _ (RS.next (wv := wv) (vs := vs) 12 (x := .bool true) (by rw [HLIT.out]; simp only [upv, e3, e11, Nat.reduceBEq, cond_true, cond_false]) (by rw [HG.out]; exact j4.out) hM.out (by rw [HG.out]; exact fun _ _ h => h) (by rw [HG.out]; exact E12.out.symm))
  · intro bf ac wv hall hJ
    obtain ⟨vs, rfl, hM, j4⟩ := hJ
    rw [HG.out] at j4
    have hlast := ((j4 12 (hall 12 (by decide)))).trans E12.out
    clear j4 hall
    rw [HLIT.out]
    dsimp only
    rw [hlast]
    clear hlast
    have HC2 := Lib.hid (HC.out.step hM)
    have HR2 := Lib.hid (HR.out.step hM)
    have HB2 := Lib.hid (keep2 hM HB.out)
    clear hM
    have c0 := HC2.out.c 0 rfl
    have c1 := HC2.out.c 1 rfl
    have c2 := HC2.out.c 2 rfl
    have cz := HC2.out.2.2
    have r0 := HR2.out.c 0 rfl
    have r1 := HR2.out.c 1 rfl
    have r2 := HR2.out.c 2 rfl
    have q0 := HR2.out.f 0 (by simp)
    have q1 := HR2.out.f 1 (by simp)
    have q2 := HR2.out.f 2 (by simp)
    have rz := HR2.out.2.2
    go_wp2
    refine (fun (h : ∀ X : World, Cs X (w.heap.size + 1) #[.int .i64 v, .int .i64 (D : Int), .int .i64 c] → Below w.heap.size w X → bodyPost Try.prog Try.f27 _ Exit.ret _ X) => h _ (Cs.set (Cs.set (Cs.set HR2.out 0 (by simp) (.int .i64 v) rfl) 1 (by simp) (.int .i64 (D : Int)) rfl) 2 (by simp) (.int .i64 c) (vs' := #[.int .i64 v, .int .i64 (D : Int), .int .i64 c]) rfl) (((HB2.out.setCell (p := ⟨w.heap.size + 1, 0, none⟩) (by simp) _).setCell (p := ⟨w.heap.size + 1, 1, none⟩) (by simp) _).setCell (p := ⟨w.heap.size + 1, 2, none⟩) (by simp) _)) ?_
    intro X hX hXB
    have k0 : X.cell? ⟨w.heap.size + 1, 0, none⟩ = some (.int .i64 v) := hX.c 0 rfl
    have k1 : X.cell? ⟨w.heap.size + 1, 1, none⟩ = some (.int .i64 (D : Int)) := hX.c 1 rfl
    have k2 : X.cell? ⟨w.heap.size + 1, 2, none⟩ = some (.int .i64 c) := hX.c 2 rfl
    exact bodyPost_ret (v := .tuple #[.agg #[.int .i64 v, .int .i64 (D : Int), .int .i64 c], .bool false]) (by simp [results, Try.results27, go_sem, k0, k1, k2]) rfl ⟨rfl, hXB⟩
set_option maxRecDepth 100000 in
set_option maxHeartbeats 8000000 in
theorem exec_go (s : Value) (L : List Od) (v : Int) (D : Nat) (c : Int) (i : Nat) (hD : D ≤ 2000000) (hl : L.length ≤ 20) (hi : i < L.length) (hb9 : ∀ x ∈ L, -1000 ≤ x.a ∧ x.a ≤ 1000000000) (w : World) (h : OdsAt w s L) (hbt : D.testBit i = false) (hcx : c < (L.getD i zO).a) (hx : exB L D c i = true) :
    Calls Try.prog 27 #[s, .agg #[.int .i64 v, .int .i64 (D : Int), .int .i64 c], .int .i64 (i : Int)] w (ExP true (exV true L i v) (exD true D i) c w) := by
  have HBT := Lib.hid hbt
  have HCX := Lib.hid hcx
  have HX := Lib.hid hx
  have HB9 := Lib.hid hb9
  clear hbt hcx hx hb9
  have HL := Lib.hid h
  obtain ⟨sa, sc, rfl, -, -, -⟩ := h
  have HC := Lib.hid ((Cs.new w w.heap.size #[.int .i64 v, .int .i64 (D : Int), .int .i64 c] 44 rfl).alloc (.cells #[.int .i64 0, .int .i64 0, .int .i64 0] 44))
  have HR := Lib.hid (Cs.new (w.alloc (.cells #[.int .i64 v, .int .i64 (D : Int), .int .i64 c] 44)) (w.heap.size + 1) #[.int .i64 0, .int .i64 0, .int .i64 0] 44 (by simp))
  have HB := Lib.hid (al2 (w := w) (o1 := .cells #[.int .i64 v, .int .i64 (D : Int), .int .i64 c] 44) (o2 := .cells #[.int .i64 0, .int .i64 0, .int .i64 0] 44))
  have H9 := Lib.hid hl
  have HI := Lib.hid hi
  have HK := Lib.hid (show i ≤ 40 by omega)
  have HIJ := Lib.hid (show (i : Int) < (L.length : Int) by omega)
  clear hl
  go_enter Try.func27, Try.ntmps27
  go_upto_region 1 with fail
  obtain ⟨wq, hwq⟩ : ∃ z, (w.alloc (.cells #[.int .i64 v, .int .i64 (D : Int), .int .i64 c] 44)).alloc (.cells #[.int .i64 0, .int .i64 0, .int .i64 0] 44) = z := ⟨_, rfl⟩
  rw [hwq] at HC HR HB ⊢
  clear hwq
  obtain ⟨a1, cc1, hv1, -, -, hcs1⟩ := HL.out.step HB.out
  obtain ⟨rfl, rfl⟩ : sa = a1 ∧ sc = cc1 := by simpa using hv1
  obtain ⟨b1, o1, rfl, hx1⟩ := hcs1 (by intro e; have := HI.out; rw [e] at this; simp at this)
  obtain ⟨y0, y1, -, y3⟩ := hx1 i _ (od_get HI.out)
  have HY0 := Lib.hid y0
  have HY1 := Lib.hid y1
  have HY3 := Lib.hid y3
  clear hcs1 hx1 hv1 y0 y1 y3
  obtain ⟨A, hA⟩ : ∃ z, (L.getD i zO).a = z := ⟨_, rfl⟩
  rw [hA] at HY0
  have HAA := Lib.hid hA
  clear hA
  have g1 : decide (A ≤ c) = false := decide_eq_false (by have := HCX.out; rw [HAA.out] at this; omega)
  go_cut [21] from 9 to 20 (fun p wc => p = .bool false ∧ Below wq.heap.size wq wc)
  case first =>
    obtain ⟨lit, hlit⟩ : ∃ lit : (Nat → Value) → Act, lit = fun vs => { tmps := List.toArray (Value.slice (some { block := b1, off := o1 }) L.length sc :: Value.agg #[Value.int IntKind.i64 v, Value.int IntKind.i64 (D : Int), Value.int IntKind.i64 c] :: Value.int IntKind.i64 (i : Int) :: undef :: Value.pointer (some { block := w.heap.size, off := 0 }) :: undef :: Value.pointer (some { block := w.heap.size + 1, off := 0 }) :: Value.bool false :: undef :: vs 0 :: vs 1 :: vs 2 :: vs 3 :: vs 4 :: vs 5 :: vs 6 :: vs 7 :: vs 8 :: vs 9 :: vs 10 :: vs 11 :: vs 12 :: undef :: undef :: undef :: undef :: undef :: undef :: undef :: undef :: undef :: undef :: undef :: undef :: undef :: undef :: undef :: undef :: undef :: undef :: undef :: undef :: undef :: undef :: undef :: undef :: undef :: undef :: undef :: undef :: undef :: undef :: undef :: undef :: undef :: undef :: undef :: undef :: undef :: undef :: undef :: undef :: undef :: undef :: undef :: undef :: undef :: undef :: undef :: undef :: undef :: undef :: undef :: undef :: []), defers := [] } := ⟨_, rfl⟩
    have HLIT := Lib.hid hlit
    clear hlit
    obtain ⟨val, hval⟩ : ∃ val : List Value, val = [.agg #[.int .i64 v, .int .i64 (D : Int), .int .i64 c], .int .i64 (i : Int), .bool false, .bool false, .slice (some ⟨b1, o1, none⟩) L.length sc, .int .i64 (i : Int), .pointer (some ⟨b1, o1 + i * 4, none⟩), .pointer (some ⟨b1, o1 + i * 4, none⟩), .int .i64 A, .pointer (some ⟨w.heap.size, 2, none⟩), .int .i64 c, .bool false, .bool false] := ⟨_, rfl⟩
    have E0 := Lib.hid (show val.getD 0 undef = .agg #[.int .i64 v, .int .i64 (D : Int), .int .i64 c] by rw [hval]; rfl)
    have E1 := Lib.hid (show val.getD 1 undef = .int .i64 (i : Int) by rw [hval]; rfl)
    have E2 := Lib.hid (show val.getD 2 undef = .bool false by rw [hval]; rfl)
    have E3 := Lib.hid (show val.getD 3 undef = .bool false by rw [hval]; rfl)
    have E4 := Lib.hid (show val.getD 4 undef = .slice (some ⟨b1, o1, none⟩) L.length sc by rw [hval]; rfl)
    have E5 := Lib.hid (show val.getD 5 undef = .int .i64 (i : Int) by rw [hval]; rfl)
    have E6 := Lib.hid (show val.getD 6 undef = .pointer (some ⟨b1, o1 + i * 4, none⟩) by rw [hval]; rfl)
    have E7 := Lib.hid (show val.getD 7 undef = .pointer (some ⟨b1, o1 + i * 4, none⟩) by rw [hval]; rfl)
    have E8 := Lib.hid (show val.getD 8 undef = .int .i64 A by rw [hval]; rfl)
    have E9 := Lib.hid (show val.getD 9 undef = .pointer (some ⟨w.heap.size, 2, none⟩) by rw [hval]; rfl)
    have E10 := Lib.hid (show val.getD 10 undef = .int .i64 c by rw [hval]; rfl)
    have E11 := Lib.hid (show val.getD 11 undef = .bool false by rw [hval]; rfl)
    have E12 := Lib.hid (show val.getD 12 undef = .bool false by rw [hval]; rfl)
    clear hval
    obtain ⟨G, hG0⟩ : ∃ G : Nat → Value → World → Prop, G = (fun i v w => (v = val.getD i undef)) := ⟨_, rfl⟩
    have HG := Lib.hid hG0
    clear hG0
    refine region_inv (RS lit wq G) (by kernel_rfl) (by decide +kernel) ?_ ?_ ?_
    · exact ⟨fun i => ([undef, undef, undef, undef, undef, undef, undef, undef, undef, undef, undef, undef, undef] : List Value).getD i undef, (by rw [HLIT.out]; rfl), below_drew _ _, fun i h => by cases h⟩
    · refine ⟨?_, ?_, ?_, ?_, ?_, ?_, ?_, ?_, ?_, ?_, ?_, ?_, ?_, trivial⟩
      · intro bf ac wv hfb haf hJ K' hK
        obtain ⟨vs, rfl, hM, j4⟩ := hJ
        replace hK := Lib.hid hK
        replace hM := Lib.hid hM
        rw [HG.out] at j4
        replace j4 := Lib.hid j4
        clear haf hfb
        have xx := HC.out.step hM.out
        have xx0 := xx.c 0 rfl
        have xx1 := xx.c 1 rfl
        have xx2 := xx.c 2 rfl
        have xxz := xx.2.2
        clear xx
        rw [HLIT.out]
        go_simp
        exact hK.out _ _ (RS.next (wv := wv) (vs := vs) 0 (x := .agg #[.int .i64 v, .int .i64 (D : Int), .int .i64 c]) (by rw [HLIT.out]; rfl) (by rw [HG.out]; exact j4.out) hM.out (by rw [HG.out]; exact fun _ _ h => h) (by rw [HG.out]; exact E0.out.symm))
      · intro bf ac wv hfb haf hJ K' hK
        obtain ⟨vs, rfl, hM, j4⟩ := hJ
        replace hK := Lib.hid hK
        replace hM := Lib.hid hM
        rw [HG.out] at j4
        replace j4 := Lib.hid j4
        clear haf hfb
        rw [HLIT.out]
        go_simp
        exact hK.out _ _ (RS.next (wv := wv) (vs := vs) 1 (x := .int .i64 (i : Int)) (by rw [HLIT.out]; rfl) (by rw [HG.out]; exact j4.out) hM.out (by rw [HG.out]; exact fun _ _ h => h) (by rw [HG.out]; exact E1.out.symm))
      · intro bf ac wv hfb haf hJ K' hK
        obtain ⟨vs, rfl, hM, j4⟩ := hJ
        replace hK := Lib.hid hK
        replace hM := Lib.hid hM
        rw [HG.out] at j4
        simp [Region.binds] at haf
        have e0 := ((j4 0 (by simp [haf]))).trans E0.out
        have e1 := ((j4 1 (by simp [haf]))).trans E1.out
        replace j4 := Lib.hid j4
        clear haf hfb
        rw [HLIT.out]
        go_simp
        go_at_call 28
        refine (done_any _ _ D i hD HK.out _).mono ?_
        rintro e w4 ⟨rfl, b4⟩
        rw [HBT.out]
        exact hK.out _ _ (RS.next (wv := wv) (vs := vs) 2 (x := .bool false) (by rw [HLIT.out]; simp only [upv, e0, e1, Nat.reduceBEq, cond_true, cond_false]) (by rw [HG.out]; exact j4.out) (keep2 b4 hM.out) (by rw [HG.out]; exact fun _ _ h => h) (by rw [HG.out]; exact E2.out.symm))
      · intro bf ac wv hfb haf hJ K' hK
        obtain ⟨vs, rfl, hM, j4⟩ := hJ
        replace hK := Lib.hid hK
        replace hM := Lib.hid hM
        rw [HG.out] at j4
        simp [Region.binds] at haf
        have e2 := ((j4 2 (by simp [haf]))).trans E2.out
        replace j4 := Lib.hid j4
        clear haf hfb
        rw [HLIT.out]
        go_simp
        exact hK.out _ _ (RS.next (wv := wv) (vs := vs) 3 (x := .bool false) (by rw [HLIT.out]; simp only [upv, e2, Nat.reduceBEq, cond_true, cond_false]) (by rw [HG.out]; exact j4.out) hM.out (by rw [HG.out]; exact fun _ _ h => h) (by rw [HG.out]; exact E3.out.symm))
      · intro bf ac wv hfb haf hJ K' hK
        obtain ⟨vs, rfl, hM, j4⟩ := hJ
        replace hK := Lib.hid hK
        replace hM := Lib.hid hM
        rw [HG.out] at j4
        simp [Region.binds] at haf
        have e3 := ((j4 3 (by simp [haf]))).trans E3.out
        replace j4 := Lib.hid j4
        clear haf hfb
        rw [HLIT.out]
        go_simp
        exact hK.out _ _ (RS.next (wv := wv) (vs := vs) 4 (x := .slice (some ⟨b1, o1, none⟩) L.length sc) (by rw [HLIT.out]; simp only [upv, e3, Nat.reduceBEq, cond_true, cond_false]) (by rw [HG.out]; exact j4.out) hM.out (by rw [HG.out]; exact fun _ _ h => h) (by rw [HG.out]; exact E4.out.symm))
      · intro bf ac wv hfb haf hJ K' hK
        obtain ⟨vs, rfl, hM, j4⟩ := hJ
        replace hK := Lib.hid hK
        replace hM := Lib.hid hM
        rw [HG.out] at j4
        simp [Region.binds] at haf
        have e3 := ((j4 3 (by simp [haf]))).trans E3.out
        replace j4 := Lib.hid j4
        clear haf hfb
        rw [HLIT.out]
        go_simp
        exact hK.out _ _ (RS.next (wv := wv) (vs := vs) 5 (x := .int .i64 (i : Int)) (by rw [HLIT.out]; simp only [upv, e3, Nat.reduceBEq, cond_true, cond_false]) (by rw [HG.out]; exact j4.out) hM.out (by rw [HG.out]; exact fun _ _ h => h) (by rw [HG.out]; exact E5.out.symm))
      · intro bf ac wv hfb haf hJ K' hK
        obtain ⟨vs, rfl, hM, j4⟩ := hJ
        replace hK := Lib.hid hK
        replace hM := Lib.hid hM
        rw [HG.out] at j4
        simp [Region.binds] at haf
        have e3 := ((j4 3 (by simp [haf]))).trans E3.out
        have e4 := ((j4 4 (by simp [haf]))).trans E4.out
        have e5 := ((j4 5 (by simp [haf]))).trans E5.out
        replace j4 := Lib.hid j4
        clear haf hfb
        have hij := HIJ.out
        rw [HLIT.out]
        go_simp
        exact hK.out _ _ (RS.next (wv := wv) (vs := vs) 6 (x := .pointer (some ⟨b1, o1 + i * 4, none⟩)) (by rw [HLIT.out]; simp only [upv, e3, e4, e5, Nat.reduceBEq, cond_true, cond_false]) (by rw [HG.out]; exact j4.out) hM.out (by rw [HG.out]; exact fun _ _ h => h) (by rw [HG.out]; exact E6.out.symm))
      · intro bf ac wv hfb haf hJ K' hK
        obtain ⟨vs, rfl, hM, j4⟩ := hJ
        replace hK := Lib.hid hK
        replace hM := Lib.hid hM
        rw [HG.out] at j4
        simp [Region.binds] at haf
        have e3 := ((j4 3 (by simp [haf]))).trans E3.out
        have e6 := ((j4 6 (by simp [haf]))).trans E6.out
        replace j4 := Lib.hid j4
        clear haf hfb
        rw [HLIT.out]
        go_simp
        exact hK.out _ _ (RS.next (wv := wv) (vs := vs) 7 (x := .pointer (some ⟨b1, o1 + i * 4, none⟩)) (by rw [HLIT.out]; simp only [upv, e3, e6, Nat.reduceBEq, cond_true, cond_false]) (by rw [HG.out]; exact j4.out) hM.out (by rw [HG.out]; exact fun _ _ h => h) (by rw [HG.out]; exact E7.out.symm))
      · intro bf ac wv hfb haf hJ K' hK
        obtain ⟨vs, rfl, hM, j4⟩ := hJ
        replace hK := Lib.hid hK
        replace hM := Lib.hid hM
        rw [HG.out] at j4
        simp [Region.binds] at haf
        have e3 := ((j4 3 (by simp [haf]))).trans E3.out
        have e7 := ((j4 7 (by simp [haf]))).trans E7.out
        replace j4 := Lib.hid j4
        clear haf hfb
        have yA := keep1 hM.out HY0.out
        have yAz := World.block_lt_of_cell? _ _ yA
        rw [HLIT.out]
        go_simp
        exact hK.out _ _ (RS.next (wv := wv) (vs := vs) 8 (x := .int .i64 A) (by rw [HLIT.out]; simp only [upv, e3, e7, Nat.reduceBEq, cond_true, cond_false]) (by rw [HG.out]; exact j4.out) hM.out (by rw [HG.out]; exact fun _ _ h => h) (by rw [HG.out]; exact E8.out.symm))
      · intro bf ac wv hfb haf hJ K' hK
        obtain ⟨vs, rfl, hM, j4⟩ := hJ
        replace hK := Lib.hid hK
        replace hM := Lib.hid hM
        rw [HG.out] at j4
        simp [Region.binds] at haf
        have e3 := ((j4 3 (by simp [haf]))).trans E3.out
        replace j4 := Lib.hid j4
        clear haf hfb
        rw [HLIT.out]
        go_simp
        exact hK.out _ _ (RS.next (wv := wv) (vs := vs) 9 (x := .pointer (some ⟨w.heap.size, 2, none⟩)) (by rw [HLIT.out]; simp only [upv, e3, Nat.reduceBEq, cond_true, cond_false]) (by rw [HG.out]; exact j4.out) hM.out (by rw [HG.out]; exact fun _ _ h => h) (by rw [HG.out]; exact E9.out.symm))
      · intro bf ac wv hfb haf hJ K' hK
        obtain ⟨vs, rfl, hM, j4⟩ := hJ
        replace hK := Lib.hid hK
        replace hM := Lib.hid hM
        rw [HG.out] at j4
        simp [Region.binds] at haf
        have e3 := ((j4 3 (by simp [haf]))).trans E3.out
        have e9 := ((j4 9 (by simp [haf]))).trans E9.out
        replace j4 := Lib.hid j4
        clear haf hfb
        have xx := HC.out.step hM.out
        have xx2 := xx.c 2 rfl
        have xxz := xx.2.2
        clear xx
        rw [HLIT.out]
        go_simp
        exact hK.out _ _ (RS.next (wv := wv) (vs := vs) 10 (x := .int .i64 c) (by rw [HLIT.out]; simp only [upv, e3, e9, Nat.reduceBEq, cond_true, cond_false]) (by rw [HG.out]; exact j4.out) hM.out (by rw [HG.out]; exact fun _ _ h => h) (by rw [HG.out]; exact E10.out.symm))
      · intro bf ac wv hfb haf hJ K' hK
        obtain ⟨vs, rfl, hM, j4⟩ := hJ
        replace hK := Lib.hid hK
        replace hM := Lib.hid hM
        rw [HG.out] at j4
        simp [Region.binds] at haf
        have e3 := ((j4 3 (by simp [haf]))).trans E3.out
        have e8 := ((j4 8 (by simp [haf]))).trans E8.out
        have e10 := ((j4 10 (by simp [haf]))).trans E10.out
        replace j4 := Lib.hid j4
        clear haf hfb
        rw [HLIT.out]
        go_simp
        exact hK.out _ _ (RS.next (wv := wv) (vs := vs) 11 (x := .bool false) (by rw [HLIT.out]; simp only [upv, e3, e8, e10, Nat.reduceBEq, cond_true, cond_false]) (by rw [HG.out]; exact j4.out) hM.out (by rw [HG.out]; exact fun _ _ h => h) (by rw [HG.out]; exact E11.out.symm))
      · intro bf ac wv hfb haf hJ K' hK
        obtain ⟨vs, rfl, hM, j4⟩ := hJ
        replace hK := Lib.hid hK
        replace hM := Lib.hid hM
        rw [HG.out] at j4
        simp [Region.binds] at haf
        have e3 := ((j4 3 (by simp [haf]))).trans E3.out
        have e11 := ((j4 11 (by simp [haf]))).trans E11.out
        replace j4 := Lib.hid j4
        clear haf hfb
        rw [HLIT.out]
        go_simp
        exact hK.out _ _ (RS.next (wv := wv) (vs := vs) 12 (x := .bool false) (by rw [HLIT.out]; simp only [upv, e3, e11, Nat.reduceBEq, cond_true, cond_false]) (by rw [HG.out]; exact j4.out) hM.out (by rw [HG.out]; exact fun _ _ h => h) (by rw [HG.out]; exact E12.out.symm))
    · intro bf ac wv hall hJ
      obtain ⟨vs, rfl, hM, j4⟩ := hJ
      rw [HG.out] at j4
      have hlast := ((j4 12 (hall 12 (by decide)))).trans E12.out
      clear j4 hall
      rw [HLIT.out]
      dsimp only
      rw [hlast]
      clear hlast
      go_wp2
      go_meet
      exact ⟨rfl, hM⟩
  case rest =>
    obtain ⟨rfl, b⟩ := hcut
    replace HC := Lib.hid (HC.out.step b)
    replace HR := Lib.hid (HR.out.step b)
    replace HB := Lib.hid (keep2 b HB.out)
    replace HY0 := Lib.hid (keep1 b HY0.out)
    replace HY1 := Lib.hid (keep1 b HY1.out)
    replace HY3 := Lib.hid (keep1 b HY3.out)
    clear b
    obtain ⟨wd, hwd⟩ : ∃ z, wc = z := ⟨_, rfl⟩
    rw [hwd] at HC HR HB HY0 HY1 HY3 ⊢
    clear hwd g1
    obtain ⟨Bi, hBi⟩ : ∃ z, (L.getD i zO).b = z := ⟨_, rfl⟩
    obtain ⟨Di, hDi⟩ : ∃ z, (L.getD i zO).d = z := ⟨_, rfl⟩
    rw [hBi] at HY1
    rw [hDi] at HY3
    have HBI := Lib.hid hBi
    have HDI := Lib.hid hDi
    clear hBi hDi
    have HAB := Lib.hid (show -1000 ≤ A ∧ A ≤ 1000000000 by rw [← HAA.out]; exact HB9.out _ (getD_mem HI.out))
    go_wp2_with fail
    go_loopw [8] (fun iv wr => ∃ k : Nat, k ≤ L.length ∧ iv = .int .i64 (k : Int) ∧ Hid (∀ j, j < k → blB L D i j = false) ∧ Hid (Below wd.heap.size wd wr)) (fun iv _ => L.length - (intOf iv).toNat)
    case atStart => exact ⟨0, by omega, rfl, Lib.hid (fun j h => absurd h (by omega)), Lib.hid (Below.refl _ _)⟩
    case round =>
      obtain ⟨k, hk, rfl, HN, HW⟩ := hrel
      by_cases hlt : k < L.length
      rotate_left
      · skip
        obtain rfl : k = L.length := by omega
        have HE := Lib.hid (exB_ok HBT.out (by rw [HAA.out]; have := HCX.out; rw [HAA.out] at this; exact this) HN.out)
        have HC2 := Lib.hid (HC.out.step HW.out)
        have HR2 := Lib.hid (HR.out.step HW.out)
        have HB2 := Lib.hid (keep2 HW.out HB.out)
        have y3 := keep1 HW.out HY3.out
        have yz := World.block_lt_of_cell? _ _ y3
        clear HN
        have c0 := HC2.out.c 0 rfl
        have c1 := HC2.out.c 1 rfl
        have c2 := HC2.out.c 2 rfl
        have cz := HC2.out.2.2
        have f0 := HC2.out.f 0 (by simp)
        have f1 := HC2.out.f 1 (by simp)
        have f2 := HC2.out.f 2 (by simp)
        have hij := HIJ.out
        have i1 : (0 : Int) ≤ (i : Int) := by omega
        have i2 : (i : Int) ≤ 40 := by have := HK.out; omega
        go_upto_region 9 with fail
        have h2 := Cs.set HC2.out 0 (by simp) (.int .i64 Di) (vs' := #[.int .i64 Di, .int .i64 (D : Int), .int .i64 c]) rfl
        have h3 := cs_other (j := 0) HR2.out (show w.heap.size + 1 ≠ w.heap.size by omega) (.int .i64 Di)
        have h4 := HB2.out.setCell (p := ⟨w.heap.size, 0, none⟩) (Nat.le_refl _) (.int .i64 Di)
        obtain ⟨W3, hW3⟩ : ∃ z, wr.setCell ⟨w.heap.size, 0, none⟩ (.int .i64 Di) = z := ⟨_, rfl⟩
        rw [hW3] at h2 h3 h4 ⊢
        have HC3 := Lib.hid h2
        have HR3 := Lib.hid h3
        have HB3 := Lib.hid h4
        clear h2 h3 h4 hW3 c0 c1 c2 cz f0 f1 f2 y3 yz hij
        have c1 := HC3.out.c 1 rfl
        have cz := HC3.out.2.2
        have f1 := HC3.out.f 1 (by simp)
        have i3 : (D : Int) ≤ 2000000 := by omega
        have i4 : (0 : Int) ≤ (D : Int) := by omega
        go_upto_region 10 with fail
        obtain ⟨D2, hD2⟩ : ∃ z, D + 2 ^ i = z := ⟨_, rfl⟩
        rw [sh_add D i hD HK.out, hD2]
        have h2 := Cs.set HC3.out 1 (by simp) (.int .i64 (D2 : Int)) (vs' := #[.int .i64 Di, .int .i64 (D2 : Int), .int .i64 c]) rfl
        have h3 := cs_other (j := 1) HR3.out (show w.heap.size + 1 ≠ w.heap.size by omega) (.int .i64 (D2 : Int))
        have h4 := HB3.out.setCell (p := ⟨w.heap.size, 1, none⟩) (Nat.le_refl _) (.int .i64 (D2 : Int))
        obtain ⟨W4, hW4⟩ : ∃ z, W3.setCell ⟨w.heap.size, 1, none⟩ (.int .i64 (D2 : Int)) = z := ⟨_, rfl⟩
        rw [hW4] at h2 h3 h4 ⊢
        have HC4 := Lib.hid h2
        have HR4 := Lib.hid h3
        have HB4 := Lib.hid h4
        have HD2 := Lib.hid hD2
        clear h2 h3 h4 hW4 c1 cz f1 hD2 i1 i2
        have c0 := HC4.out.c 0 rfl
        have c1 := HC4.out.c 1 rfl
        have c2 := HC4.out.c 2 rfl
        have cz := HC4.out.2.2
        have r0 := HR4.out.c 0 rfl
        have r1 := HR4.out.c 1 rfl
        have r2 := HR4.out.c 2 rfl
        have q0 := HR4.out.f 0 (by simp)
        have q1 := HR4.out.f 1 (by simp)
        have q2 := HR4.out.f 2 (by simp)
        have rz := HR4.out.2.2
        go_wp2
        refine (fun (h : ∀ X : World, Cs X (w.heap.size + 1) #[.int .i64 Di, .int .i64 (D2 : Int), .int .i64 c] → Below w.heap.size w X → bodyPost Try.prog Try.f27 _ Exit.ret _ X) => h _ (Cs.set (Cs.set (Cs.set HR4.out 0 (by simp) (.int .i64 Di) rfl) 1 (by simp) (.int .i64 (D2 : Int)) rfl) 2 (by simp) (.int .i64 c) (vs' := #[.int .i64 Di, .int .i64 (D2 : Int), .int .i64 c]) rfl) (((HB4.out.setCell (p := ⟨w.heap.size + 1, 0, none⟩) (by simp) _).setCell (p := ⟨w.heap.size + 1, 1, none⟩) (by simp) _).setCell (p := ⟨w.heap.size + 1, 2, none⟩) (by simp) _)) ?_
        intro X hX hXB
        have k0 : X.cell? ⟨w.heap.size + 1, 0, none⟩ = some (.int .i64 Di) := hX.c 0 rfl
        have k1 : X.cell? ⟨w.heap.size + 1, 1, none⟩ = some (.int .i64 (D2 : Int)) := hX.c 1 rfl
        have k2 : X.cell? ⟨w.heap.size + 1, 2, none⟩ = some (.int .i64 c) := hX.c 2 rfl
        exact bodyPost_ret (v := .tuple #[.agg #[.int .i64 Di, .int .i64 (D2 : Int), .int .i64 c], .bool true]) (by simp [results, Try.results27, go_sem, k0, k1, k2]) rfl ⟨by unfold exV exD; rw [if_pos rfl, if_pos rfl, HDI.out, HD2.out], hXB⟩
      have HT1 := Lib.hid (show (k : Int) < (L.length : Int) by omega)
      have HKK := Lib.hid (show k ≤ 40 by have := H9.out; omega)
      obtain ⟨yk0, yk1⟩ : wr.cell? ⟨b1, o1 + k * 4, none⟩ = some (.int .i64 (L.getD k zO).a) ∧ wr.cell? ⟨b1, o1 + k * 4 + 1, none⟩ = some (.int .i64 (L.getD k zO).b) := by
        obtain ⟨a2, cc2, hv2, -, -, hcs2⟩ := (HL.out.step HB.out).step HW.out
        have ea : some (⟨b1, o1, none⟩ : Addr) = a2 := by simp at hv2; exact hv2.1
        obtain ⟨b2, o2, hx, hx2⟩ := hcs2 (by intro e; rw [e] at hlt; simp at hlt)
        rw [← ea] at hx
        cases hx
        obtain ⟨q0, q1, -, -⟩ := hx2 k _ (od_get hlt)
        exact ⟨q0, q1⟩
      have HBL := Lib.hid (show blB L D i k = (D.testBit k && (decide (A + 16 ≤ (L.getD k zO).a) || decide (Bi < (L.getD k zO).b))) by unfold blB; rw [HAA.out, HBI.out])
      have HNX := Lib.hid (show blB L D i k = false → ∀ j, j < k + 1 → blB L D i j = false from fun h0 j h => by
        by_cases e : j = k
        · subst e; exact h0
        · exact HN.out j (by omega))
      have HBK := Lib.hid (HB9.out _ (getD_mem hlt))
      have HEB := Lib.hid (fun (h : blB L D i k = true) => exB_bl (c := c) hlt h)
      obtain ⟨ka, hka⟩ : ∃ z, (L.getD k zO).a = z := ⟨_, rfl⟩
      obtain ⟨kb, hkb⟩ : ∃ z, (L.getD k zO).b = z := ⟨_, rfl⟩
      rw [hka] at yk0 HBL HBK
      rw [hkb] at yk1 HBL
      clear hka hkb
      have HK0 := Lib.hid yk0
      have HK1 := Lib.hid yk1
      have HY0r := Lib.hid (keep1 HW.out HY0.out)
      have HY1r := Lib.hid (keep1 HW.out HY1.out)
      have HCr := Lib.hid (HC.out.step HW.out)
      have HRr := Lib.hid (HR.out.step HW.out)
      have HBr := Lib.hid (keep2 HW.out HB.out)
      clear yk0 yk1
      have HA17 := Lib.hid (show IntKind.i64.wrap (A + 16) = A + 16 from IntWalk.i64_in _ (by have := HAB.out; omega))
      have HA16 := Lib.hid (show wrap64 (A + 16) = A + 16 from IntWalk.wrap64_in _ (by have := HAB.out; omega))
      have HLT := Lib.hid hlt
      have t1 := HT1.out
      clear hk
      go_upto_region 6 with fail
      clear hlt t1
      go_cut [58] from 29 to 57 (fun p wc => p = .bool (blB L D i k) ∧ Below wr.heap.size wr wc)
      case first =>
        cases hbk : D.testBit k
        · have HBT2 := Lib.hid hbk
          have HBV := Lib.hid (show blB L D i k = false from by rw [HBL.out, hbk]; rfl)
          obtain ⟨lit, hlit⟩ : ∃ lit : (Nat → Value) → Act, lit = fun vs => { tmps := List.toArray (Value.slice (some { block := b1, off := o1 }) L.length sc :: Value.agg #[Value.int IntKind.i64 v, Value.int IntKind.i64 (D : Int), Value.int IntKind.i64 c] :: Value.int IntKind.i64 (i : Int) :: undef :: Value.pointer (some { block := w.heap.size, off := 0 }) :: undef :: Value.pointer (some { block := w.heap.size + 1, off := 0 }) :: u7 :: Value.int IntKind.i64 (k : Int) :: u9 :: u10 :: u11 :: u12 :: u13 :: u14 :: u15 :: u16 :: u17 :: u18 :: u19 :: u20 :: Value.bool false :: undef :: Value.int IntKind.i64 (k : Int) :: Value.slice (some { block := b1, off := o1 }) L.length sc :: Value.int IntKind.i64 (L.length : Int) :: Value.bool true :: u27 :: u28 :: vs 0 :: vs 1 :: vs 2 :: vs 3 :: vs 4 :: vs 5 :: vs 6 :: vs 7 :: vs 8 :: vs 9 :: vs 10 :: vs 11 :: vs 12 :: vs 13 :: vs 14 :: vs 15 :: vs 16 :: vs 17 :: vs 18 :: vs 19 :: vs 20 :: vs 21 :: vs 22 :: vs 23 :: vs 24 :: vs 25 :: vs 26 :: vs 27 :: vs 28 :: vs 29 :: u59 :: undef :: undef :: undef :: undef :: undef :: undef :: undef :: undef :: undef :: undef :: undef :: undef :: undef :: undef :: []), defers := [] } := ⟨_, rfl⟩
          have HLIT := Lib.hid hlit
          clear hlit
          obtain ⟨val, hval⟩ : ∃ val : List Value, val = [.agg #[.int .i64 v, .int .i64 (D : Int), .int .i64 c], .int .i64 (k : Int), .bool false, .bool false, undef, undef, undef, undef, undef, undef, undef, undef, undef, undef, undef, undef, undef, undef, undef, undef, undef, undef, undef, undef, undef, undef, undef, undef, undef, .bool false] := ⟨_, rfl⟩
          have E0 := Lib.hid (show val.getD 0 undef = .agg #[.int .i64 v, .int .i64 (D : Int), .int .i64 c] by rw [hval]; rfl)
          have E1 := Lib.hid (show val.getD 1 undef = .int .i64 (k : Int) by rw [hval]; rfl)
          have E2 := Lib.hid (show val.getD 2 undef = .bool false by rw [hval]; rfl)
          have E3 := Lib.hid (show val.getD 3 undef = .bool false by rw [hval]; rfl)
          have E4 := Lib.hid (show val.getD 4 undef = undef by rw [hval]; rfl)
          have E5 := Lib.hid (show val.getD 5 undef = undef by rw [hval]; rfl)
          have E6 := Lib.hid (show val.getD 6 undef = undef by rw [hval]; rfl)
          have E7 := Lib.hid (show val.getD 7 undef = undef by rw [hval]; rfl)
          have E8 := Lib.hid (show val.getD 8 undef = undef by rw [hval]; rfl)
          have E9 := Lib.hid (show val.getD 9 undef = undef by rw [hval]; rfl)
          have E10 := Lib.hid (show val.getD 10 undef = undef by rw [hval]; rfl)
          have E11 := Lib.hid (show val.getD 11 undef = undef by rw [hval]; rfl)
          have E12 := Lib.hid (show val.getD 12 undef = undef by rw [hval]; rfl)
          have E13 := Lib.hid (show val.getD 13 undef = undef by rw [hval]; rfl)
          have E14 := Lib.hid (show val.getD 14 undef = undef by rw [hval]; rfl)
          have E15 := Lib.hid (show val.getD 15 undef = undef by rw [hval]; rfl)
          have E16 := Lib.hid (show val.getD 16 undef = undef by rw [hval]; rfl)
          have E17 := Lib.hid (show val.getD 17 undef = undef by rw [hval]; rfl)
          have E18 := Lib.hid (show val.getD 18 undef = undef by rw [hval]; rfl)
          have E19 := Lib.hid (show val.getD 19 undef = undef by rw [hval]; rfl)
          have E20 := Lib.hid (show val.getD 20 undef = undef by rw [hval]; rfl)
          have E21 := Lib.hid (show val.getD 21 undef = undef by rw [hval]; rfl)
          have E22 := Lib.hid (show val.getD 22 undef = undef by rw [hval]; rfl)
          have E23 := Lib.hid (show val.getD 23 undef = undef by rw [hval]; rfl)
          have E24 := Lib.hid (show val.getD 24 undef = undef by rw [hval]; rfl)
          have E25 := Lib.hid (show val.getD 25 undef = undef by rw [hval]; rfl)
          have E26 := Lib.hid (show val.getD 26 undef = undef by rw [hval]; rfl)
          have E27 := Lib.hid (show val.getD 27 undef = undef by rw [hval]; rfl)
          have E28 := Lib.hid (show val.getD 28 undef = undef by rw [hval]; rfl)
          have E29 := Lib.hid (show val.getD 29 undef = .bool false by rw [hval]; rfl)
          clear hval
          obtain ⟨G, hG0⟩ : ∃ G : Nat → Value → World → Prop, G = (fun i v w => (v = val.getD i undef)) := ⟨_, rfl⟩
          have HG := Lib.hid hG0
          clear hG0
          refine region_inv (RS lit wr G) (by kernel_rfl) (by decide +kernel) ?_ ?_ ?_
          · exact ⟨fun i => ([u29, u30, u31, u32, u33, u34, u35, u36, u37, u38, u39, u40, u41, u42, u43, u44, u45, u46, u47, u48, u49, u50, u51, u52, u53, u54, u55, u56, u57, u58] : List Value).getD i undef, (by rw [HLIT.out]; rfl), below_drew _ _, fun i h => by cases h⟩
          · refine ⟨?_, ?_, ?_, ?_, ?_, ?_, ?_, ?_, ?_, ?_, ?_, ?_, ?_, ?_, ?_, ?_, ?_, ?_, ?_, ?_, ?_, ?_, ?_, ?_, ?_, ?_, ?_, ?_, ?_, ?_, trivial⟩
            · intro bf ac wv hfb haf hJ K' hK
              obtain ⟨vs, rfl, hM, j4⟩ := hJ
              replace hK := Lib.hid hK
              replace hM := Lib.hid hM
              rw [HG.out] at j4
              replace j4 := Lib.hid j4
              clear haf hfb
              have xx := HCr.out.step hM.out
              have xx0 := xx.c 0 rfl
              have xx1 := xx.c 1 rfl
              have xx2 := xx.c 2 rfl
              have xxz := xx.2.2
              clear xx
              rw [HLIT.out]
              go_simp
              exact hK.out _ _ (RS.next (wv := wv) (vs := vs) 0 (x := .agg #[.int .i64 v, .int .i64 (D : Int), .int .i64 c]) (by rw [HLIT.out]; rfl) (by rw [HG.out]; exact j4.out) hM.out (by rw [HG.out]; exact fun _ _ h => h) (by rw [HG.out]; exact E0.out.symm))
            · intro bf ac wv hfb haf hJ K' hK
              obtain ⟨vs, rfl, hM, j4⟩ := hJ
              replace hK := Lib.hid hK
              replace hM := Lib.hid hM
              rw [HG.out] at j4
              replace j4 := Lib.hid j4
              clear haf hfb
              rw [HLIT.out]
              go_simp
              exact hK.out _ _ (RS.next (wv := wv) (vs := vs) 1 (x := .int .i64 (k : Int)) (by rw [HLIT.out]; rfl) (by rw [HG.out]; exact j4.out) hM.out (by rw [HG.out]; exact fun _ _ h => h) (by rw [HG.out]; exact E1.out.symm))
            · intro bf ac wv hfb haf hJ K' hK
              obtain ⟨vs, rfl, hM, j4⟩ := hJ
              replace hK := Lib.hid hK
              replace hM := Lib.hid hM
              rw [HG.out] at j4
              simp [Region.binds] at haf
              have e0 := ((j4 0 (by simp [haf]))).trans E0.out
              have e1 := ((j4 1 (by simp [haf]))).trans E1.out
              replace j4 := Lib.hid j4
              clear haf hfb
              rw [HLIT.out]
              go_simp
              go_at_call 28
              refine (done_any _ _ D k hD HKK.out _).mono ?_
              rintro e w4 ⟨rfl, b4⟩
              rw [HBT2.out]
              exact hK.out _ _ (RS.next (wv := wv) (vs := vs) 2 (x := .bool false) (by rw [HLIT.out]; simp only [upv, e0, e1, Nat.reduceBEq, cond_true, cond_false]) (by rw [HG.out]; exact j4.out) (keep2 b4 hM.out) (by rw [HG.out]; exact fun _ _ h => h) (by rw [HG.out]; exact E2.out.symm))
            · intro bf ac wv hfb haf hJ K' hK
              obtain ⟨vs, rfl, hM, j4⟩ := hJ
              replace hK := Lib.hid hK
              replace hM := Lib.hid hM
              rw [HG.out] at j4
              simp [Region.binds] at haf
              have e2 := ((j4 2 (by simp [haf]))).trans E2.out
              replace j4 := Lib.hid j4
              clear haf hfb
              rw [HLIT.out]
              go_simp
              exact hK.out _ _ (RS.next (wv := wv) (vs := vs) 3 (x := .bool false) (by rw [HLIT.out]; simp only [upv, e2, Nat.reduceBEq, cond_true, cond_false]) (by rw [HG.out]; exact j4.out) hM.out (by rw [HG.out]; exact fun _ _ h => h) (by rw [HG.out]; exact E3.out.symm))
            · intro bf ac wv hfb haf hJ K' hK
              obtain ⟨vs, rfl, hM, j4⟩ := hJ
              replace hK := Lib.hid hK
              replace hM := Lib.hid hM
              rw [HG.out] at j4
              simp [Region.binds] at haf
              have e3 := ((j4 3 (by simp [haf]))).trans E3.out
              replace j4 := Lib.hid j4
              clear haf hfb
              rw [HLIT.out]
              go_simp
              exact hK.out _ _ (RS.next (wv := wv) (vs := vs) 4 (x := undef) (by rw [HLIT.out]; simp only [upv, e3, Nat.reduceBEq, cond_true, cond_false]) (by rw [HG.out]; exact j4.out) hM.out (by rw [HG.out]; exact fun _ _ h => h) (by rw [HG.out]; exact E4.out.symm))
            · intro bf ac wv hfb haf hJ K' hK
              obtain ⟨vs, rfl, hM, j4⟩ := hJ
              replace hK := Lib.hid hK
              replace hM := Lib.hid hM
              rw [HG.out] at j4
              simp [Region.binds] at haf
              have e3 := ((j4 3 (by simp [haf]))).trans E3.out
              replace j4 := Lib.hid j4
              clear haf hfb
              rw [HLIT.out]
              go_simp
              exact hK.out _ _ (RS.next (wv := wv) (vs := vs) 5 (x := undef) (by rw [HLIT.out]; simp only [upv, e3, Nat.reduceBEq, cond_true, cond_false]) (by rw [HG.out]; exact j4.out) hM.out (by rw [HG.out]; exact fun _ _ h => h) (by rw [HG.out]; exact E5.out.symm))
            · intro bf ac wv hfb haf hJ K' hK
              obtain ⟨vs, rfl, hM, j4⟩ := hJ
              replace hK := Lib.hid hK
              replace hM := Lib.hid hM
              rw [HG.out] at j4
              simp [Region.binds] at haf
              have e3 := ((j4 3 (by simp [haf]))).trans E3.out
              replace j4 := Lib.hid j4
              clear haf hfb
              rw [HLIT.out]
              go_simp
              exact hK.out _ _ (RS.next (wv := wv) (vs := vs) 6 (x := undef) (by rw [HLIT.out]; simp only [upv, e3, Nat.reduceBEq, cond_true, cond_false]) (by rw [HG.out]; exact j4.out) hM.out (by rw [HG.out]; exact fun _ _ h => h) (by rw [HG.out]; exact E6.out.symm))
            · intro bf ac wv hfb haf hJ K' hK
              obtain ⟨vs, rfl, hM, j4⟩ := hJ
              replace hK := Lib.hid hK
              replace hM := Lib.hid hM
              rw [HG.out] at j4
              simp [Region.binds] at haf
              have e3 := ((j4 3 (by simp [haf]))).trans E3.out
              replace j4 := Lib.hid j4
              clear haf hfb
              rw [HLIT.out]
              go_simp
              exact hK.out _ _ (RS.next (wv := wv) (vs := vs) 7 (x := undef) (by rw [HLIT.out]; simp only [upv, e3, Nat.reduceBEq, cond_true, cond_false]) (by rw [HG.out]; exact j4.out) hM.out (by rw [HG.out]; exact fun _ _ h => h) (by rw [HG.out]; exact E7.out.symm))
            · intro bf ac wv hfb haf hJ K' hK
              obtain ⟨vs, rfl, hM, j4⟩ := hJ
              replace hK := Lib.hid hK
              replace hM := Lib.hid hM
              rw [HG.out] at j4
              simp [Region.binds] at haf
              have e3 := ((j4 3 (by simp [haf]))).trans E3.out
              replace j4 := Lib.hid j4
              clear haf hfb
              rw [HLIT.out]
              go_simp
              exact hK.out _ _ (RS.next (wv := wv) (vs := vs) 8 (x := undef) (by rw [HLIT.out]; simp only [upv, e3, Nat.reduceBEq, cond_true, cond_false]) (by rw [HG.out]; exact j4.out) hM.out (by rw [HG.out]; exact fun _ _ h => h) (by rw [HG.out]; exact E8.out.symm))
            · intro bf ac wv hfb haf hJ K' hK
              obtain ⟨vs, rfl, hM, j4⟩ := hJ
              replace hK := Lib.hid hK
              replace hM := Lib.hid hM
              rw [HG.out] at j4
              simp [Region.binds] at haf
              have e3 := ((j4 3 (by simp [haf]))).trans E3.out
              replace j4 := Lib.hid j4
              clear haf hfb
              rw [HLIT.out]
              go_simp
              exact hK.out _ _ (RS.next (wv := wv) (vs := vs) 9 (x := undef) (by rw [HLIT.out]; simp only [upv, e3, Nat.reduceBEq, cond_true, cond_false]) (by rw [HG.out]; exact j4.out) hM.out (by rw [HG.out]; exact fun _ _ h => h) (by rw [HG.out]; exact E9.out.symm))
            · intro bf ac wv hfb haf hJ K' hK
              obtain ⟨vs, rfl, hM, j4⟩ := hJ
              replace hK := Lib.hid hK
              replace hM := Lib.hid hM
              rw [HG.out] at j4
              simp [Region.binds] at haf
              have e3 := ((j4 3 (by simp [haf]))).trans E3.out
              replace j4 := Lib.hid j4
              clear haf hfb
              rw [HLIT.out]
              go_simp
              exact hK.out _ _ (RS.next (wv := wv) (vs := vs) 10 (x := undef) (by rw [HLIT.out]; simp only [upv, e3, Nat.reduceBEq, cond_true, cond_false]) (by rw [HG.out]; exact j4.out) hM.out (by rw [HG.out]; exact fun _ _ h => h) (by rw [HG.out]; exact E10.out.symm))
            · intro bf ac wv hfb haf hJ K' hK
              obtain ⟨vs, rfl, hM, j4⟩ := hJ
              replace hK := Lib.hid hK
              replace hM := Lib.hid hM
              rw [HG.out] at j4
              simp [Region.binds] at haf
              have e3 := ((j4 3 (by simp [haf]))).trans E3.out
              replace j4 := Lib.hid j4
              clear haf hfb
              rw [HLIT.out]
              go_simp
              exact hK.out _ _ (RS.next (wv := wv) (vs := vs) 11 (x := undef) (by rw [HLIT.out]; simp only [upv, e3, Nat.reduceBEq, cond_true, cond_false]) (by rw [HG.out]; exact j4.out) hM.out (by rw [HG.out]; exact fun _ _ h => h) (by rw [HG.out]; exact E11.out.symm))
            · intro bf ac wv hfb haf hJ K' hK
              obtain ⟨vs, rfl, hM, j4⟩ := hJ
              replace hK := Lib.hid hK
              replace hM := Lib.hid hM
              rw [HG.out] at j4
              simp [Region.binds] at haf
              have e3 := ((j4 3 (by simp [haf]))).trans E3.out
              replace j4 := Lib.hid j4
              clear haf hfb
              rw [HLIT.out]
              go_simp
              exact hK.out _ _ (RS.next (wv := wv) (vs := vs) 12 (x := undef) (by rw [HLIT.out]; simp only [upv, e3, Nat.reduceBEq, cond_true, cond_false]) (by rw [HG.out]; exact j4.out) hM.out (by rw [HG.out]; exact fun _ _ h => h) (by rw [HG.out]; exact E12.out.symm))
            · intro bf ac wv hfb haf hJ K' hK
              obtain ⟨vs, rfl, hM, j4⟩ := hJ
              replace hK := Lib.hid hK
              replace hM := Lib.hid hM
              rw [HG.out] at j4
              simp [Region.binds] at haf
              have e3 := ((j4 3 (by simp [haf]))).trans E3.out
              replace j4 := Lib.hid j4
              clear haf hfb
              rw [HLIT.out]
              go_simp
              exact hK.out _ _ (RS.next (wv := wv) (vs := vs) 13 (x := undef) (by rw [HLIT.out]; simp only [upv, e3, Nat.reduceBEq, cond_true, cond_false]) (by rw [HG.out]; exact j4.out) hM.out (by rw [HG.out]; exact fun _ _ h => h) (by rw [HG.out]; exact E13.out.symm))
            · intro bf ac wv hfb haf hJ K' hK
              obtain ⟨vs, rfl, hM, j4⟩ := hJ
              replace hK := Lib.hid hK
              replace hM := Lib.hid hM
              rw [HG.out] at j4
              simp [Region.binds] at haf
              have e3 := ((j4 3 (by simp [haf]))).trans E3.out
              replace j4 := Lib.hid j4
              clear haf hfb
              rw [HLIT.out]
              go_simp
              exact hK.out _ _ (RS.next (wv := wv) (vs := vs) 14 (x := undef) (by rw [HLIT.out]; simp only [upv, e3, Nat.reduceBEq, cond_true, cond_false]) (by rw [HG.out]; exact j4.out) hM.out (by rw [HG.out]; exact fun _ _ h => h) (by rw [HG.out]; exact E14.out.symm))
            · intro bf ac wv hfb haf hJ K' hK
              obtain ⟨vs, rfl, hM, j4⟩ := hJ
              replace hK := Lib.hid hK
              replace hM := Lib.hid hM
              rw [HG.out] at j4
              simp [Region.binds] at haf
              have e3 := ((j4 3 (by simp [haf]))).trans E3.out
              replace j4 := Lib.hid j4
              clear haf hfb
              rw [HLIT.out]
              go_simp
              exact hK.out _ _ (RS.next (wv := wv) (vs := vs) 15 (x := undef) (by rw [HLIT.out]; simp only [upv, e3, Nat.reduceBEq, cond_true, cond_false]) (by rw [HG.out]; exact j4.out) hM.out (by rw [HG.out]; exact fun _ _ h => h) (by rw [HG.out]; exact E15.out.symm))
            · intro bf ac wv hfb haf hJ K' hK
              obtain ⟨vs, rfl, hM, j4⟩ := hJ
              replace hK := Lib.hid hK
              replace hM := Lib.hid hM
              rw [HG.out] at j4
              simp [Region.binds] at haf
              have e3 := ((j4 3 (by simp [haf]))).trans E3.out
              replace j4 := Lib.hid j4
              clear haf hfb
              rw [HLIT.out]
              go_simp
              exact hK.out _ _ (RS.next (wv := wv) (vs := vs) 16 (x := undef) (by rw [HLIT.out]; simp only [upv, e3, Nat.reduceBEq, cond_true, cond_false]) (by rw [HG.out]; exact j4.out) hM.out (by rw [HG.out]; exact fun _ _ h => h) (by rw [HG.out]; exact E16.out.symm))
            · intro bf ac wv hfb haf hJ K' hK
              obtain ⟨vs, rfl, hM, j4⟩ := hJ
              replace hK := Lib.hid hK
              replace hM := Lib.hid hM
              rw [HG.out] at j4
              simp [Region.binds] at haf
              have e16 := ((j4 16 (by simp [haf]))).trans E16.out
              replace j4 := Lib.hid j4
              clear haf hfb
              rw [HLIT.out]
              go_simp
              exact hK.out _ _ (RS.next (wv := wv) (vs := vs) 17 (x := undef) (by rw [HLIT.out]; simp only [upv, e16, Nat.reduceBEq, cond_true, cond_false]) (by rw [HG.out]; exact j4.out) hM.out (by rw [HG.out]; exact fun _ _ h => h) (by rw [HG.out]; exact E17.out.symm))
            · intro bf ac wv hfb haf hJ K' hK
              obtain ⟨vs, rfl, hM, j4⟩ := hJ
              replace hK := Lib.hid hK
              replace hM := Lib.hid hM
              rw [HG.out] at j4
              simp [Region.binds] at haf
              have e16 := ((j4 16 (by simp [haf]))).trans E16.out
              replace j4 := Lib.hid j4
              clear haf hfb
              rw [HLIT.out]
              go_simp
              exact hK.out _ _ (RS.next (wv := wv) (vs := vs) 18 (x := undef) (by rw [HLIT.out]; simp only [upv, e16, Nat.reduceBEq, cond_true, cond_false]) (by rw [HG.out]; exact j4.out) hM.out (by rw [HG.out]; exact fun _ _ h => h) (by rw [HG.out]; exact E18.out.symm))
            · intro bf ac wv hfb haf hJ K' hK
              obtain ⟨vs, rfl, hM, j4⟩ := hJ
              replace hK := Lib.hid hK
              replace hM := Lib.hid hM
              rw [HG.out] at j4
              simp [Region.binds] at haf
              have e16 := ((j4 16 (by simp [haf]))).trans E16.out
              replace j4 := Lib.hid j4
              clear haf hfb
              rw [HLIT.out]
              go_simp
              exact hK.out _ _ (RS.next (wv := wv) (vs := vs) 19 (x := undef) (by rw [HLIT.out]; simp only [upv, e16, Nat.reduceBEq, cond_true, cond_false]) (by rw [HG.out]; exact j4.out) hM.out (by rw [HG.out]; exact fun _ _ h => h) (by rw [HG.out]; exact E19.out.symm))
            · intro bf ac wv hfb haf hJ K' hK
              obtain ⟨vs, rfl, hM, j4⟩ := hJ
              replace hK := Lib.hid hK
              replace hM := Lib.hid hM
              rw [HG.out] at j4
              simp [Region.binds] at haf
              have e16 := ((j4 16 (by simp [haf]))).trans E16.out
              replace j4 := Lib.hid j4
              clear haf hfb
              rw [HLIT.out]
              go_simp
              exact hK.out _ _ (RS.next (wv := wv) (vs := vs) 20 (x := undef) (by rw [HLIT.out]; simp only [upv, e16, Nat.reduceBEq, cond_true, cond_false]) (by rw [HG.out]; exact j4.out) hM.out (by rw [HG.out]; exact fun _ _ h => h) (by rw [HG.out]; exact E20.out.symm))
            · intro bf ac wv hfb haf hJ K' hK
              obtain ⟨vs, rfl, hM, j4⟩ := hJ
              replace hK := Lib.hid hK
              replace hM := Lib.hid hM
              rw [HG.out] at j4
              simp [Region.binds] at haf
              have e16 := ((j4 16 (by simp [haf]))).trans E16.out
              replace j4 := Lib.hid j4
              clear haf hfb
              rw [HLIT.out]
              go_simp
              exact hK.out _ _ (RS.next (wv := wv) (vs := vs) 21 (x := undef) (by rw [HLIT.out]; simp only [upv, e16, Nat.reduceBEq, cond_true, cond_false]) (by rw [HG.out]; exact j4.out) hM.out (by rw [HG.out]; exact fun _ _ h => h) (by rw [HG.out]; exact E21.out.symm))
            · intro bf ac wv hfb haf hJ K' hK
              obtain ⟨vs, rfl, hM, j4⟩ := hJ
              replace hK := Lib.hid hK
              replace hM := Lib.hid hM
              rw [HG.out] at j4
              simp [Region.binds] at haf
              have e16 := ((j4 16 (by simp [haf]))).trans E16.out
              replace j4 := Lib.hid j4
              clear haf hfb
              rw [HLIT.out]
              go_simp
              exact hK.out _ _ (RS.next (wv := wv) (vs := vs) 22 (x := undef) (by rw [HLIT.out]; simp only [upv, e16, Nat.reduceBEq, cond_true, cond_false]) (by rw [HG.out]; exact j4.out) hM.out (by rw [HG.out]; exact fun _ _ h => h) (by rw [HG.out]; exact E22.out.symm))
            · intro bf ac wv hfb haf hJ K' hK
              obtain ⟨vs, rfl, hM, j4⟩ := hJ
              replace hK := Lib.hid hK
              replace hM := Lib.hid hM
              rw [HG.out] at j4
              simp [Region.binds] at haf
              have e16 := ((j4 16 (by simp [haf]))).trans E16.out
              replace j4 := Lib.hid j4
              clear haf hfb
              rw [HLIT.out]
              go_simp
              exact hK.out _ _ (RS.next (wv := wv) (vs := vs) 23 (x := undef) (by rw [HLIT.out]; simp only [upv, e16, Nat.reduceBEq, cond_true, cond_false]) (by rw [HG.out]; exact j4.out) hM.out (by rw [HG.out]; exact fun _ _ h => h) (by rw [HG.out]; exact E23.out.symm))
            · intro bf ac wv hfb haf hJ K' hK
              obtain ⟨vs, rfl, hM, j4⟩ := hJ
              replace hK := Lib.hid hK
              replace hM := Lib.hid hM
              rw [HG.out] at j4
              simp [Region.binds] at haf
              have e16 := ((j4 16 (by simp [haf]))).trans E16.out
              replace j4 := Lib.hid j4
              clear haf hfb
              rw [HLIT.out]
              go_simp
              exact hK.out _ _ (RS.next (wv := wv) (vs := vs) 24 (x := undef) (by rw [HLIT.out]; simp only [upv, e16, Nat.reduceBEq, cond_true, cond_false]) (by rw [HG.out]; exact j4.out) hM.out (by rw [HG.out]; exact fun _ _ h => h) (by rw [HG.out]; exact E24.out.symm))
            · intro bf ac wv hfb haf hJ K' hK
              obtain ⟨vs, rfl, hM, j4⟩ := hJ
              replace hK := Lib.hid hK
              replace hM := Lib.hid hM
              rw [HG.out] at j4
              simp [Region.binds] at haf
              have e16 := ((j4 16 (by simp [haf]))).trans E16.out
              replace j4 := Lib.hid j4
              clear haf hfb
              rw [HLIT.out]
              go_simp
              exact hK.out _ _ (RS.next (wv := wv) (vs := vs) 25 (x := undef) (by rw [HLIT.out]; simp only [upv, e16, Nat.reduceBEq, cond_true, cond_false]) (by rw [HG.out]; exact j4.out) hM.out (by rw [HG.out]; exact fun _ _ h => h) (by rw [HG.out]; exact E25.out.symm))
            · intro bf ac wv hfb haf hJ K' hK
              obtain ⟨vs, rfl, hM, j4⟩ := hJ
              replace hK := Lib.hid hK
              replace hM := Lib.hid hM
              rw [HG.out] at j4
              simp [Region.binds] at haf
              have e16 := ((j4 16 (by simp [haf]))).trans E16.out
              replace j4 := Lib.hid j4
              clear haf hfb
              rw [HLIT.out]
              go_simp
              exact hK.out _ _ (RS.next (wv := wv) (vs := vs) 26 (x := undef) (by rw [HLIT.out]; simp only [upv, e16, Nat.reduceBEq, cond_true, cond_false]) (by rw [HG.out]; exact j4.out) hM.out (by rw [HG.out]; exact fun _ _ h => h) (by rw [HG.out]; exact E26.out.symm))
            · intro bf ac wv hfb haf hJ K' hK
              obtain ⟨vs, rfl, hM, j4⟩ := hJ
              replace hK := Lib.hid hK
              replace hM := Lib.hid hM
              rw [HG.out] at j4
              simp [Region.binds] at haf
              have e16 := ((j4 16 (by simp [haf]))).trans E16.out
              replace j4 := Lib.hid j4
              clear haf hfb
              rw [HLIT.out]
              go_simp
              exact hK.out _ _ (RS.next (wv := wv) (vs := vs) 27 (x := undef) (by rw [HLIT.out]; simp only [upv, e16, Nat.reduceBEq, cond_true, cond_false]) (by rw [HG.out]; exact j4.out) hM.out (by rw [HG.out]; exact fun _ _ h => h) (by rw [HG.out]; exact E27.out.symm))
            · intro bf ac wv hfb haf hJ K' hK
              obtain ⟨vs, rfl, hM, j4⟩ := hJ
              replace hK := Lib.hid hK
              replace hM := Lib.hid hM
              rw [HG.out] at j4
              simp [Region.binds] at haf
              have e3 := ((j4 3 (by simp [haf]))).trans E3.out
              replace j4 := Lib.hid j4
              clear haf hfb
              rw [HLIT.out]
              go_simp
              exact hK.out _ _ (RS.next (wv := wv) (vs := vs) 28 (x := undef) (by rw [HLIT.out]; simp only [upv, e3, Nat.reduceBEq, cond_true, cond_false]) (by rw [HG.out]; exact j4.out) hM.out (by rw [HG.out]; exact fun _ _ h => h) (by rw [HG.out]; exact E28.out.symm))
            · intro bf ac wv hfb haf hJ K' hK
              obtain ⟨vs, rfl, hM, j4⟩ := hJ
              replace hK := Lib.hid hK
              replace hM := Lib.hid hM
              rw [HG.out] at j4
              simp [Region.binds] at haf
              have e3 := ((j4 3 (by simp [haf]))).trans E3.out
              have e28 := ((j4 28 (by simp [haf]))).trans E28.out
              replace j4 := Lib.hid j4
              clear haf hfb
              rw [HLIT.out]
              go_simp
              exact hK.out _ _ (RS.next (wv := wv) (vs := vs) 29 (x := .bool false) (by rw [HLIT.out]; simp only [upv, e3, e28, Nat.reduceBEq, cond_true, cond_false]) (by rw [HG.out]; exact j4.out) hM.out (by rw [HG.out]; exact fun _ _ h => h) (by rw [HG.out]; exact E29.out.symm))
          · intro bf ac wv hall hJ
            obtain ⟨vs, rfl, hM, j4⟩ := hJ
            rw [HG.out] at j4
            have hlast := ((j4 29 (hall 29 (by decide)))).trans E29.out
            clear j4 hall
            rw [HLIT.out]
            dsimp only
            rw [hlast]
            clear hlast
            go_wp2
            go_meet
            exact ⟨by rw [HBV.out], hM⟩
        have HBT2 := Lib.hid hbk
        by_cases g1 : A + 16 ≤ ka
        · have z1 : decide (A + 16 ≤ ka) = true := decide_eq_true g1
          have HBV := Lib.hid (show blB L D i k = true from by rw [HBL.out, hbk, decide_eq_true g1]; rfl)
          obtain ⟨lit, hlit⟩ : ∃ lit : (Nat → Value) → Act, lit = fun vs => { tmps := List.toArray (Value.slice (some { block := b1, off := o1 }) L.length sc :: Value.agg #[Value.int IntKind.i64 v, Value.int IntKind.i64 (D : Int), Value.int IntKind.i64 c] :: Value.int IntKind.i64 (i : Int) :: undef :: Value.pointer (some { block := w.heap.size, off := 0 }) :: undef :: Value.pointer (some { block := w.heap.size + 1, off := 0 }) :: u7 :: Value.int IntKind.i64 (k : Int) :: u9 :: u10 :: u11 :: u12 :: u13 :: u14 :: u15 :: u16 :: u17 :: u18 :: u19 :: u20 :: Value.bool false :: undef :: Value.int IntKind.i64 (k : Int) :: Value.slice (some { block := b1, off := o1 }) L.length sc :: Value.int IntKind.i64 (L.length : Int) :: Value.bool true :: u27 :: u28 :: vs 0 :: vs 1 :: vs 2 :: vs 3 :: vs 4 :: vs 5 :: vs 6 :: vs 7 :: vs 8 :: vs 9 :: vs 10 :: vs 11 :: vs 12 :: vs 13 :: vs 14 :: vs 15 :: vs 16 :: vs 17 :: vs 18 :: vs 19 :: vs 20 :: vs 21 :: vs 22 :: vs 23 :: vs 24 :: vs 25 :: vs 26 :: vs 27 :: vs 28 :: vs 29 :: u59 :: undef :: undef :: undef :: undef :: undef :: undef :: undef :: undef :: undef :: undef :: undef :: undef :: undef :: undef :: []), defers := [] } := ⟨_, rfl⟩
          have HLIT := Lib.hid hlit
          clear hlit
          obtain ⟨val, hval⟩ : ∃ val : List Value, val = [.agg #[.int .i64 v, .int .i64 (D : Int), .int .i64 c], .int .i64 (k : Int), .bool true, .bool true, .slice (some ⟨b1, o1, none⟩) L.length sc, .int .i64 (k : Int), .pointer (some ⟨b1, o1 + k * 4, none⟩), .pointer (some ⟨b1, o1 + k * 4, none⟩), .int .i64 ka, .slice (some ⟨b1, o1, none⟩) L.length sc, .int .i64 (i : Int), .pointer (some ⟨b1, o1 + i * 4, none⟩), .pointer (some ⟨b1, o1 + i * 4, none⟩), .int .i64 A, .int .i64 (A + 16), .bool true, .bool true, undef, undef, undef, undef, undef, undef, undef, undef, undef, undef, undef, .bool true, .bool true] := ⟨_, rfl⟩
          have E0 := Lib.hid (show val.getD 0 undef = .agg #[.int .i64 v, .int .i64 (D : Int), .int .i64 c] by rw [hval]; rfl)
          have E1 := Lib.hid (show val.getD 1 undef = .int .i64 (k : Int) by rw [hval]; rfl)
          have E2 := Lib.hid (show val.getD 2 undef = .bool true by rw [hval]; rfl)
          have E3 := Lib.hid (show val.getD 3 undef = .bool true by rw [hval]; rfl)
          have E4 := Lib.hid (show val.getD 4 undef = .slice (some ⟨b1, o1, none⟩) L.length sc by rw [hval]; rfl)
          have E5 := Lib.hid (show val.getD 5 undef = .int .i64 (k : Int) by rw [hval]; rfl)
          have E6 := Lib.hid (show val.getD 6 undef = .pointer (some ⟨b1, o1 + k * 4, none⟩) by rw [hval]; rfl)
          have E7 := Lib.hid (show val.getD 7 undef = .pointer (some ⟨b1, o1 + k * 4, none⟩) by rw [hval]; rfl)
          have E8 := Lib.hid (show val.getD 8 undef = .int .i64 ka by rw [hval]; rfl)
          have E9 := Lib.hid (show val.getD 9 undef = .slice (some ⟨b1, o1, none⟩) L.length sc by rw [hval]; rfl)
          have E10 := Lib.hid (show val.getD 10 undef = .int .i64 (i : Int) by rw [hval]; rfl)
          have E11 := Lib.hid (show val.getD 11 undef = .pointer (some ⟨b1, o1 + i * 4, none⟩) by rw [hval]; rfl)
          have E12 := Lib.hid (show val.getD 12 undef = .pointer (some ⟨b1, o1 + i * 4, none⟩) by rw [hval]; rfl)
          have E13 := Lib.hid (show val.getD 13 undef = .int .i64 A by rw [hval]; rfl)
          have E14 := Lib.hid (show val.getD 14 undef = .int .i64 (A + 16) by rw [hval]; rfl)
          have E15 := Lib.hid (show val.getD 15 undef = .bool true by rw [hval]; rfl)
          have E16 := Lib.hid (show val.getD 16 undef = .bool true by rw [hval]; rfl)
          have E17 := Lib.hid (show val.getD 17 undef = undef by rw [hval]; rfl)
          have E18 := Lib.hid (show val.getD 18 undef = undef by rw [hval]; rfl)
          have E19 := Lib.hid (show val.getD 19 undef = undef by rw [hval]; rfl)
          have E20 := Lib.hid (show val.getD 20 undef = undef by rw [hval]; rfl)
          have E21 := Lib.hid (show val.getD 21 undef = undef by rw [hval]; rfl)
          have E22 := Lib.hid (show val.getD 22 undef = undef by rw [hval]; rfl)
          have E23 := Lib.hid (show val.getD 23 undef = undef by rw [hval]; rfl)
          have E24 := Lib.hid (show val.getD 24 undef = undef by rw [hval]; rfl)
          have E25 := Lib.hid (show val.getD 25 undef = undef by rw [hval]; rfl)
          have E26 := Lib.hid (show val.getD 26 undef = undef by rw [hval]; rfl)
          have E27 := Lib.hid (show val.getD 27 undef = undef by rw [hval]; rfl)
          have E28 := Lib.hid (show val.getD 28 undef = .bool true by rw [hval]; rfl)
          have E29 := Lib.hid (show val.getD 29 undef = .bool true by rw [hval]; rfl)
          clear hval
          obtain ⟨G, hG0⟩ : ∃ G : Nat → Value → World → Prop, G = (fun i v w => (v = val.getD i undef)) := ⟨_, rfl⟩
          have HG := Lib.hid hG0
          clear hG0
          refine region_inv (RS lit wr G) (by kernel_rfl) (by decide +kernel) ?_ ?_ ?_
          · exact ⟨fun i => ([u29, u30, u31, u32, u33, u34, u35, u36, u37, u38, u39, u40, u41, u42, u43, u44, u45, u46, u47, u48, u49, u50, u51, u52, u53, u54, u55, u56, u57, u58] : List Value).getD i undef, (by rw [HLIT.out]; rfl), below_drew _ _, fun i h => by cases h⟩
          · refine ⟨?_, ?_, ?_, ?_, ?_, ?_, ?_, ?_, ?_, ?_, ?_, ?_, ?_, ?_, ?_, ?_, ?_, ?_, ?_, ?_, ?_, ?_, ?_, ?_, ?_, ?_, ?_, ?_, ?_, ?_, trivial⟩
            · intro bf ac wv hfb haf hJ K' hK
              obtain ⟨vs, rfl, hM, j4⟩ := hJ
              replace hK := Lib.hid hK
              replace hM := Lib.hid hM
              rw [HG.out] at j4
              replace j4 := Lib.hid j4
              clear haf hfb
              have xx := HCr.out.step hM.out
              have xx0 := xx.c 0 rfl
              have xx1 := xx.c 1 rfl
              have xx2 := xx.c 2 rfl
              have xxz := xx.2.2
              clear xx
              rw [HLIT.out]
              go_simp
              exact hK.out _ _ (RS.next (wv := wv) (vs := vs) 0 (x := .agg #[.int .i64 v, .int .i64 (D : Int), .int .i64 c]) (by rw [HLIT.out]; rfl) (by rw [HG.out]; exact j4.out) hM.out (by rw [HG.out]; exact fun _ _ h => h) (by rw [HG.out]; exact E0.out.symm))
            · intro bf ac wv hfb haf hJ K' hK
              obtain ⟨vs, rfl, hM, j4⟩ := hJ
              replace hK := Lib.hid hK
              replace hM := Lib.hid hM
              rw [HG.out] at j4
              replace j4 := Lib.hid j4
              clear haf hfb
              rw [HLIT.out]
              go_simp
              exact hK.out _ _ (RS.next (wv := wv) (vs := vs) 1 (x := .int .i64 (k : Int)) (by rw [HLIT.out]; rfl) (by rw [HG.out]; exact j4.out) hM.out (by rw [HG.out]; exact fun _ _ h => h) (by rw [HG.out]; exact E1.out.symm))
            · intro bf ac wv hfb haf hJ K' hK
              obtain ⟨vs, rfl, hM, j4⟩ := hJ
              replace hK := Lib.hid hK
              replace hM := Lib.hid hM
              rw [HG.out] at j4
              simp [Region.binds] at haf
              have e0 := ((j4 0 (by simp [haf]))).trans E0.out
              have e1 := ((j4 1 (by simp [haf]))).trans E1.out
              replace j4 := Lib.hid j4
              clear haf hfb
              rw [HLIT.out]
              go_simp
              go_at_call 28
              refine (done_any _ _ D k hD HKK.out _).mono ?_
              rintro e w4 ⟨rfl, b4⟩
              rw [HBT2.out]
              exact hK.out _ _ (RS.next (wv := wv) (vs := vs) 2 (x := .bool true) (by rw [HLIT.out]; simp only [upv, e0, e1, Nat.reduceBEq, cond_true, cond_false]) (by rw [HG.out]; exact j4.out) (keep2 b4 hM.out) (by rw [HG.out]; exact fun _ _ h => h) (by rw [HG.out]; exact E2.out.symm))
            · intro bf ac wv hfb haf hJ K' hK
              obtain ⟨vs, rfl, hM, j4⟩ := hJ
              replace hK := Lib.hid hK
              replace hM := Lib.hid hM
              rw [HG.out] at j4
              simp [Region.binds] at haf
              have e2 := ((j4 2 (by simp [haf]))).trans E2.out
              replace j4 := Lib.hid j4
              clear haf hfb
              rw [HLIT.out]
              go_simp
              exact hK.out _ _ (RS.next (wv := wv) (vs := vs) 3 (x := .bool true) (by rw [HLIT.out]; simp only [upv, e2, Nat.reduceBEq, cond_true, cond_false]) (by rw [HG.out]; exact j4.out) hM.out (by rw [HG.out]; exact fun _ _ h => h) (by rw [HG.out]; exact E3.out.symm))
            · intro bf ac wv hfb haf hJ K' hK
              obtain ⟨vs, rfl, hM, j4⟩ := hJ
              replace hK := Lib.hid hK
              replace hM := Lib.hid hM
              rw [HG.out] at j4
              simp [Region.binds] at haf
              have e3 := ((j4 3 (by simp [haf]))).trans E3.out
              replace j4 := Lib.hid j4
              clear haf hfb
              rw [HLIT.out]
              go_simp
              exact hK.out _ _ (RS.next (wv := wv) (vs := vs) 4 (x := .slice (some ⟨b1, o1, none⟩) L.length sc) (by rw [HLIT.out]; simp only [upv, e3, Nat.reduceBEq, cond_true, cond_false]) (by rw [HG.out]; exact j4.out) hM.out (by rw [HG.out]; exact fun _ _ h => h) (by rw [HG.out]; exact E4.out.symm))
            · intro bf ac wv hfb haf hJ K' hK
              obtain ⟨vs, rfl, hM, j4⟩ := hJ
              replace hK := Lib.hid hK
              replace hM := Lib.hid hM
              rw [HG.out] at j4
              simp [Region.binds] at haf
              have e3 := ((j4 3 (by simp [haf]))).trans E3.out
              replace j4 := Lib.hid j4
              clear haf hfb
              rw [HLIT.out]
              go_simp
              exact hK.out _ _ (RS.next (wv := wv) (vs := vs) 5 (x := .int .i64 (k : Int)) (by rw [HLIT.out]; simp only [upv, e3, Nat.reduceBEq, cond_true, cond_false]) (by rw [HG.out]; exact j4.out) hM.out (by rw [HG.out]; exact fun _ _ h => h) (by rw [HG.out]; exact E5.out.symm))
            · intro bf ac wv hfb haf hJ K' hK
              obtain ⟨vs, rfl, hM, j4⟩ := hJ
              replace hK := Lib.hid hK
              replace hM := Lib.hid hM
              rw [HG.out] at j4
              simp [Region.binds] at haf
              have e3 := ((j4 3 (by simp [haf]))).trans E3.out
              have e4 := ((j4 4 (by simp [haf]))).trans E4.out
              have e5 := ((j4 5 (by simp [haf]))).trans E5.out
              replace j4 := Lib.hid j4
              clear haf hfb
              have hij := HT1.out
              rw [HLIT.out]
              go_simp
              exact hK.out _ _ (RS.next (wv := wv) (vs := vs) 6 (x := .pointer (some ⟨b1, o1 + k * 4, none⟩)) (by rw [HLIT.out]; simp only [upv, e3, e4, e5, Nat.reduceBEq, cond_true, cond_false]) (by rw [HG.out]; exact j4.out) hM.out (by rw [HG.out]; exact fun _ _ h => h) (by rw [HG.out]; exact E6.out.symm))
            · intro bf ac wv hfb haf hJ K' hK
              obtain ⟨vs, rfl, hM, j4⟩ := hJ
              replace hK := Lib.hid hK
              replace hM := Lib.hid hM
              rw [HG.out] at j4
              simp [Region.binds] at haf
              have e3 := ((j4 3 (by simp [haf]))).trans E3.out
              have e6 := ((j4 6 (by simp [haf]))).trans E6.out
              replace j4 := Lib.hid j4
              clear haf hfb
              rw [HLIT.out]
              go_simp
              exact hK.out _ _ (RS.next (wv := wv) (vs := vs) 7 (x := .pointer (some ⟨b1, o1 + k * 4, none⟩)) (by rw [HLIT.out]; simp only [upv, e3, e6, Nat.reduceBEq, cond_true, cond_false]) (by rw [HG.out]; exact j4.out) hM.out (by rw [HG.out]; exact fun _ _ h => h) (by rw [HG.out]; exact E7.out.symm))
            · intro bf ac wv hfb haf hJ K' hK
              obtain ⟨vs, rfl, hM, j4⟩ := hJ
              replace hK := Lib.hid hK
              replace hM := Lib.hid hM
              rw [HG.out] at j4
              simp [Region.binds] at haf
              have e3 := ((j4 3 (by simp [haf]))).trans E3.out
              have e7 := ((j4 7 (by simp [haf]))).trans E7.out
              replace j4 := Lib.hid j4
              clear haf hfb
              have yA := keep1 hM.out HK0.out
              have yAz := World.block_lt_of_cell? _ _ yA
              rw [HLIT.out]
              go_simp
              exact hK.out _ _ (RS.next (wv := wv) (vs := vs) 8 (x := .int .i64 ka) (by rw [HLIT.out]; simp only [upv, e3, e7, Nat.reduceBEq, cond_true, cond_false]) (by rw [HG.out]; exact j4.out) hM.out (by rw [HG.out]; exact fun _ _ h => h) (by rw [HG.out]; exact E8.out.symm))
            · intro bf ac wv hfb haf hJ K' hK
              obtain ⟨vs, rfl, hM, j4⟩ := hJ
              replace hK := Lib.hid hK
              replace hM := Lib.hid hM
              rw [HG.out] at j4
              simp [Region.binds] at haf
              have e3 := ((j4 3 (by simp [haf]))).trans E3.out
              replace j4 := Lib.hid j4
              clear haf hfb
              rw [HLIT.out]
              go_simp
              exact hK.out _ _ (RS.next (wv := wv) (vs := vs) 9 (x := .slice (some ⟨b1, o1, none⟩) L.length sc) (by rw [HLIT.out]; simp only [upv, e3, Nat.reduceBEq, cond_true, cond_false]) (by rw [HG.out]; exact j4.out) hM.out (by rw [HG.out]; exact fun _ _ h => h) (by rw [HG.out]; exact E9.out.symm))
            · intro bf ac wv hfb haf hJ K' hK
              obtain ⟨vs, rfl, hM, j4⟩ := hJ
              replace hK := Lib.hid hK
              replace hM := Lib.hid hM
              rw [HG.out] at j4
              simp [Region.binds] at haf
              have e3 := ((j4 3 (by simp [haf]))).trans E3.out
              replace j4 := Lib.hid j4
              clear haf hfb
              rw [HLIT.out]
              go_simp
              exact hK.out _ _ (RS.next (wv := wv) (vs := vs) 10 (x := .int .i64 (i : Int)) (by rw [HLIT.out]; simp only [upv, e3, Nat.reduceBEq, cond_true, cond_false]) (by rw [HG.out]; exact j4.out) hM.out (by rw [HG.out]; exact fun _ _ h => h) (by rw [HG.out]; exact E10.out.symm))
            · intro bf ac wv hfb haf hJ K' hK
              obtain ⟨vs, rfl, hM, j4⟩ := hJ
              replace hK := Lib.hid hK
              replace hM := Lib.hid hM
              rw [HG.out] at j4
              simp [Region.binds] at haf
              have e3 := ((j4 3 (by simp [haf]))).trans E3.out
              have e9 := ((j4 9 (by simp [haf]))).trans E9.out
              have e10 := ((j4 10 (by simp [haf]))).trans E10.out
              replace j4 := Lib.hid j4
              clear haf hfb
              have hij := HIJ.out
              rw [HLIT.out]
              go_simp
              exact hK.out _ _ (RS.next (wv := wv) (vs := vs) 11 (x := .pointer (some ⟨b1, o1 + i * 4, none⟩)) (by rw [HLIT.out]; simp only [upv, e3, e9, e10, Nat.reduceBEq, cond_true, cond_false]) (by rw [HG.out]; exact j4.out) hM.out (by rw [HG.out]; exact fun _ _ h => h) (by rw [HG.out]; exact E11.out.symm))
            · intro bf ac wv hfb haf hJ K' hK
              obtain ⟨vs, rfl, hM, j4⟩ := hJ
              replace hK := Lib.hid hK
              replace hM := Lib.hid hM
              rw [HG.out] at j4
              simp [Region.binds] at haf
              have e3 := ((j4 3 (by simp [haf]))).trans E3.out
              have e11 := ((j4 11 (by simp [haf]))).trans E11.out
              replace j4 := Lib.hid j4
              clear haf hfb
              rw [HLIT.out]
              go_simp
              exact hK.out _ _ (RS.next (wv := wv) (vs := vs) 12 (x := .pointer (some ⟨b1, o1 + i * 4, none⟩)) (by rw [HLIT.out]; simp only [upv, e3, e11, Nat.reduceBEq, cond_true, cond_false]) (by rw [HG.out]; exact j4.out) hM.out (by rw [HG.out]; exact fun _ _ h => h) (by rw [HG.out]; exact E12.out.symm))
            · intro bf ac wv hfb haf hJ K' hK
              obtain ⟨vs, rfl, hM, j4⟩ := hJ
              replace hK := Lib.hid hK
              replace hM := Lib.hid hM
              rw [HG.out] at j4
              simp [Region.binds] at haf
              have e3 := ((j4 3 (by simp [haf]))).trans E3.out
              have e12 := ((j4 12 (by simp [haf]))).trans E12.out
              replace j4 := Lib.hid j4
              clear haf hfb
              have yA := keep1 hM.out HY0r.out
              have yAz := World.block_lt_of_cell? _ _ yA
              rw [HLIT.out]
              go_simp
              exact hK.out _ _ (RS.next (wv := wv) (vs := vs) 13 (x := .int .i64 A) (by rw [HLIT.out]; simp only [upv, e3, e12, Nat.reduceBEq, cond_true, cond_false]) (by rw [HG.out]; exact j4.out) hM.out (by rw [HG.out]; exact fun _ _ h => h) (by rw [HG.out]; exact E13.out.symm))
            · intro bf ac wv hfb haf hJ K' hK
              obtain ⟨vs, rfl, hM, j4⟩ := hJ
              replace hK := Lib.hid hK
              replace hM := Lib.hid hM
              rw [HG.out] at j4
              simp [Region.binds] at haf
              have e3 := ((j4 3 (by simp [haf]))).trans E3.out
              have e13 := ((j4 13 (by simp [haf]))).trans E13.out
              replace j4 := Lib.hid j4
              clear haf hfb
              have hA16 := HA16.out
              have hA16b := HA17.out
              rw [HLIT.out]
              go_simp
              exact hK.out _ _ (RS.next (wv := wv) (vs := vs) 14 (x := .int .i64 (A + 16)) (by rw [HLIT.out]; simp only [upv, e3, e13, Nat.reduceBEq, cond_true, cond_false]) (by rw [HG.out]; exact j4.out) hM.out (by rw [HG.out]; exact fun _ _ h => h) (by rw [HG.out]; exact E14.out.symm))
            · intro bf ac wv hfb haf hJ K' hK
              obtain ⟨vs, rfl, hM, j4⟩ := hJ
              replace hK := Lib.hid hK
              replace hM := Lib.hid hM
              rw [HG.out] at j4
              simp [Region.binds] at haf
              have e3 := ((j4 3 (by simp [haf]))).trans E3.out
              have e8 := ((j4 8 (by simp [haf]))).trans E8.out
              have e14 := ((j4 14 (by simp [haf]))).trans E14.out
              replace j4 := Lib.hid j4
              clear haf hfb
              rw [HLIT.out]
              go_simp
              exact hK.out _ _ (RS.next (wv := wv) (vs := vs) 15 (x := .bool true) (by rw [HLIT.out]; simp only [upv, e3, e8, e14, Nat.reduceBEq, cond_true, cond_false]) (by rw [HG.out]; exact j4.out) hM.out (by rw [HG.out]; exact fun _ _ h => h) (by rw [HG.out]; exact E15.out.symm))
            · intro bf ac wv hfb haf hJ K' hK
              obtain ⟨vs, rfl, hM, j4⟩ := hJ
              replace hK := Lib.hid hK
              replace hM := Lib.hid hM
              rw [HG.out] at j4
              simp [Region.binds] at haf
              have e3 := ((j4 3 (by simp [haf]))).trans E3.out
              have e15 := ((j4 15 (by simp [haf]))).trans E15.out
              replace j4 := Lib.hid j4
              clear haf hfb
              rw [HLIT.out]
              go_simp
              exact hK.out _ _ (RS.next (wv := wv) (vs := vs) 16 (x := .bool true) (by rw [HLIT.out]; simp only [upv, e3, e15, Nat.reduceBEq, cond_true, cond_false]) (by rw [HG.out]; exact j4.out) hM.out (by rw [HG.out]; exact fun _ _ h => h) (by rw [HG.out]; exact E16.out.symm))
            · intro bf ac wv hfb haf hJ K' hK
              obtain ⟨vs, rfl, hM, j4⟩ := hJ
              replace hK := Lib.hid hK
              replace hM := Lib.hid hM
              rw [HG.out] at j4
              simp [Region.binds] at haf
              have e16 := ((j4 16 (by simp [haf]))).trans E16.out
              replace j4 := Lib.hid j4
              clear haf hfb
              rw [HLIT.out]
              go_simp
              exact hK.out _ _ (RS.next (wv := wv) (vs := vs) 17 (x := undef) (by rw [HLIT.out]; simp only [upv, e16, Nat.reduceBEq, cond_true, cond_false]) (by rw [HG.out]; exact j4.out) hM.out (by rw [HG.out]; exact fun _ _ h => h) (by rw [HG.out]; exact E17.out.symm))
            · intro bf ac wv hfb haf hJ K' hK
              obtain ⟨vs, rfl, hM, j4⟩ := hJ
              replace hK := Lib.hid hK
              replace hM := Lib.hid hM
              rw [HG.out] at j4
              simp [Region.binds] at haf
              have e16 := ((j4 16 (by simp [haf]))).trans E16.out
              replace j4 := Lib.hid j4
              clear haf hfb
              rw [HLIT.out]
              go_simp
              exact hK.out _ _ (RS.next (wv := wv) (vs := vs) 18 (x := undef) (by rw [HLIT.out]; simp only [upv, e16, Nat.reduceBEq, cond_true, cond_false]) (by rw [HG.out]; exact j4.out) hM.out (by rw [HG.out]; exact fun _ _ h => h) (by rw [HG.out]; exact E18.out.symm))
            · intro bf ac wv hfb haf hJ K' hK
              obtain ⟨vs, rfl, hM, j4⟩ := hJ
              replace hK := Lib.hid hK
              replace hM := Lib.hid hM
              rw [HG.out] at j4
              simp [Region.binds] at haf
              have e16 := ((j4 16 (by simp [haf]))).trans E16.out
              replace j4 := Lib.hid j4
              clear haf hfb
              rw [HLIT.out]
              go_simp
              exact hK.out _ _ (RS.next (wv := wv) (vs := vs) 19 (x := undef) (by rw [HLIT.out]; simp only [upv, e16, Nat.reduceBEq, cond_true, cond_false]) (by rw [HG.out]; exact j4.out) hM.out (by rw [HG.out]; exact fun _ _ h => h) (by rw [HG.out]; exact E19.out.symm))
            · intro bf ac wv hfb haf hJ K' hK
              obtain ⟨vs, rfl, hM, j4⟩ := hJ
              replace hK := Lib.hid hK
              replace hM := Lib.hid hM
              rw [HG.out] at j4
              simp [Region.binds] at haf
              have e16 := ((j4 16 (by simp [haf]))).trans E16.out
              replace j4 := Lib.hid j4
              clear haf hfb
              rw [HLIT.out]
              go_simp
              exact hK.out _ _ (RS.next (wv := wv) (vs := vs) 20 (x := undef) (by rw [HLIT.out]; simp only [upv, e16, Nat.reduceBEq, cond_true, cond_false]) (by rw [HG.out]; exact j4.out) hM.out (by rw [HG.out]; exact fun _ _ h => h) (by rw [HG.out]; exact E20.out.symm))
            · intro bf ac wv hfb haf hJ K' hK
              obtain ⟨vs, rfl, hM, j4⟩ := hJ
              replace hK := Lib.hid hK
              replace hM := Lib.hid hM
              rw [HG.out] at j4
              simp [Region.binds] at haf
              have e16 := ((j4 16 (by simp [haf]))).trans E16.out
              replace j4 := Lib.hid j4
              clear haf hfb
              rw [HLIT.out]
              go_simp
              exact hK.out _ _ (RS.next (wv := wv) (vs := vs) 21 (x := undef) (by rw [HLIT.out]; simp only [upv, e16, Nat.reduceBEq, cond_true, cond_false]) (by rw [HG.out]; exact j4.out) hM.out (by rw [HG.out]; exact fun _ _ h => h) (by rw [HG.out]; exact E21.out.symm))
            · intro bf ac wv hfb haf hJ K' hK
              obtain ⟨vs, rfl, hM, j4⟩ := hJ
              replace hK := Lib.hid hK
              replace hM := Lib.hid hM
              rw [HG.out] at j4
              simp [Region.binds] at haf
              have e16 := ((j4 16 (by simp [haf]))).trans E16.out
              replace j4 := Lib.hid j4
              clear haf hfb
              rw [HLIT.out]
              go_simp
              exact hK.out _ _ (RS.next (wv := wv) (vs := vs) 22 (x := undef) (by rw [HLIT.out]; simp only [upv, e16, Nat.reduceBEq, cond_true, cond_false]) (by rw [HG.out]; exact j4.out) hM.out (by rw [HG.out]; exact fun _ _ h => h) (by rw [HG.out]; exact E22.out.symm))
            · intro bf ac wv hfb haf hJ K' hK
              obtain ⟨vs, rfl, hM, j4⟩ := hJ
              replace hK := Lib.hid hK
              replace hM := Lib.hid hM
              rw [HG.out] at j4
              simp [Region.binds] at haf
              have e16 := ((j4 16 (by simp [haf]))).trans E16.out
              replace j4 := Lib.hid j4
              clear haf hfb
              rw [HLIT.out]
              go_simp
              exact hK.out _ _ (RS.next (wv := wv) (vs := vs) 23 (x := undef) (by rw [HLIT.out]; simp only [upv, e16, Nat.reduceBEq, cond_true, cond_false]) (by rw [HG.out]; exact j4.out) hM.out (by rw [HG.out]; exact fun _ _ h => h) (by rw [HG.out]; exact E23.out.symm))
            · intro bf ac wv hfb haf hJ K' hK
              obtain ⟨vs, rfl, hM, j4⟩ := hJ
              replace hK := Lib.hid hK
              replace hM := Lib.hid hM
              rw [HG.out] at j4
              simp [Region.binds] at haf
              have e16 := ((j4 16 (by simp [haf]))).trans E16.out
              replace j4 := Lib.hid j4
              clear haf hfb
              rw [HLIT.out]
              go_simp
              exact hK.out _ _ (RS.next (wv := wv) (vs := vs) 24 (x := undef) (by rw [HLIT.out]; simp only [upv, e16, Nat.reduceBEq, cond_true, cond_false]) (by rw [HG.out]; exact j4.out) hM.out (by rw [HG.out]; exact fun _ _ h => h) (by rw [HG.out]; exact E24.out.symm))
            · intro bf ac wv hfb haf hJ K' hK
              obtain ⟨vs, rfl, hM, j4⟩ := hJ
              replace hK := Lib.hid hK
              replace hM := Lib.hid hM
              rw [HG.out] at j4
              simp [Region.binds] at haf
              have e16 := ((j4 16 (by simp [haf]))).trans E16.out
              replace j4 := Lib.hid j4
              clear haf hfb
              rw [HLIT.out]
              go_simp
              exact hK.out _ _ (RS.next (wv := wv) (vs := vs) 25 (x := undef) (by rw [HLIT.out]; simp only [upv, e16, Nat.reduceBEq, cond_true, cond_false]) (by rw [HG.out]; exact j4.out) hM.out (by rw [HG.out]; exact fun _ _ h => h) (by rw [HG.out]; exact E25.out.symm))
            · intro bf ac wv hfb haf hJ K' hK
              obtain ⟨vs, rfl, hM, j4⟩ := hJ
              replace hK := Lib.hid hK
              replace hM := Lib.hid hM
              rw [HG.out] at j4
              simp [Region.binds] at haf
              have e16 := ((j4 16 (by simp [haf]))).trans E16.out
              replace j4 := Lib.hid j4
              clear haf hfb
              rw [HLIT.out]
              go_simp
              exact hK.out _ _ (RS.next (wv := wv) (vs := vs) 26 (x := undef) (by rw [HLIT.out]; simp only [upv, e16, Nat.reduceBEq, cond_true, cond_false]) (by rw [HG.out]; exact j4.out) hM.out (by rw [HG.out]; exact fun _ _ h => h) (by rw [HG.out]; exact E26.out.symm))
            · intro bf ac wv hfb haf hJ K' hK
              obtain ⟨vs, rfl, hM, j4⟩ := hJ
              replace hK := Lib.hid hK
              replace hM := Lib.hid hM
              rw [HG.out] at j4
              simp [Region.binds] at haf
              have e16 := ((j4 16 (by simp [haf]))).trans E16.out
              replace j4 := Lib.hid j4
              clear haf hfb
              rw [HLIT.out]
              go_simp
              exact hK.out _ _ (RS.next (wv := wv) (vs := vs) 27 (x := undef) (by rw [HLIT.out]; simp only [upv, e16, Nat.reduceBEq, cond_true, cond_false]) (by rw [HG.out]; exact j4.out) hM.out (by rw [HG.out]; exact fun _ _ h => h) (by rw [HG.out]; exact E27.out.symm))
            · intro bf ac wv hfb haf hJ K' hK
              obtain ⟨vs, rfl, hM, j4⟩ := hJ
              replace hK := Lib.hid hK
              replace hM := Lib.hid hM
              rw [HG.out] at j4
              simp [Region.binds] at haf
              have e3 := ((j4 3 (by simp [haf]))).trans E3.out
              have e16 := ((j4 16 (by simp [haf]))).trans E16.out
              have e27 := ((j4 27 (by simp [haf]))).trans E27.out
              replace j4 := Lib.hid j4
              clear haf hfb
              rw [HLIT.out]
              go_simp
              exact hK.out _ _ (RS.next (wv := wv) (vs := vs) 28 (x := .bool true) (by rw [HLIT.out]; simp only [upv, e3, e16, e27, Nat.reduceBEq, cond_true, cond_false]) (by rw [HG.out]; exact j4.out) hM.out (by rw [HG.out]; exact fun _ _ h => h) (by rw [HG.out]; exact E28.out.symm))
            · intro bf ac wv hfb haf hJ K' hK
              obtain ⟨vs, rfl, hM, j4⟩ := hJ
              replace hK := Lib.hid hK
              replace hM := Lib.hid hM
              rw [HG.out] at j4
              simp [Region.binds] at haf
              have e3 := ((j4 3 (by simp [haf]))).trans E3.out
              have e28 := ((j4 28 (by simp [haf]))).trans E28.out
              replace j4 := Lib.hid j4
              clear haf hfb
              rw [HLIT.out]
              go_simp
              exact hK.out _ _ (RS.next (wv := wv) (vs := vs) 29 (x := .bool true) (by rw [HLIT.out]; simp only [upv, e3, e28, Nat.reduceBEq, cond_true, cond_false]) (by rw [HG.out]; exact j4.out) hM.out (by rw [HG.out]; exact fun _ _ h => h) (by rw [HG.out]; exact E29.out.symm))
          · intro bf ac wv hall hJ
            obtain ⟨vs, rfl, hM, j4⟩ := hJ
            rw [HG.out] at j4
            have hlast := ((j4 29 (hall 29 (by decide)))).trans E29.out
            clear j4 hall
            rw [HLIT.out]
            dsimp only
            rw [hlast]
            clear hlast
            go_wp2
            go_meet
            exact ⟨by rw [HBV.out], hM⟩
        have z1 : decide (A + 16 ≤ ka) = false := decide_eq_false g1
        by_cases g2 : Bi < kb
        · have z2 : decide (Bi < kb) = true := decide_eq_true g2
          have HBV := Lib.hid (show blB L D i k = true from by rw [HBL.out, hbk, decide_eq_true g2]; simp)
          obtain ⟨lit, hlit⟩ : ∃ lit : (Nat → Value) → Act, lit = fun vs => { tmps := List.toArray (Value.slice (some { block := b1, off := o1 }) L.length sc :: Value.agg #[Value.int IntKind.i64 v, Value.int IntKind.i64 (D : Int), Value.int IntKind.i64 c] :: Value.int IntKind.i64 (i : Int) :: undef :: Value.pointer (some { block := w.heap.size, off := 0 }) :: undef :: Value.pointer (some { block := w.heap.size + 1, off := 0 }) :: u7 :: Value.int IntKind.i64 (k : Int) :: u9 :: u10 :: u11 :: u12 :: u13 :: u14 :: u15 :: u16 :: u17 :: u18 :: u19 :: u20 :: Value.bool false :: undef :: Value.int IntKind.i64 (k : Int) :: Value.slice (some { block := b1, off := o1 }) L.length sc :: Value.int IntKind.i64 (L.length : Int) :: Value.bool true :: u27 :: u28 :: vs 0 :: vs 1 :: vs 2 :: vs 3 :: vs 4 :: vs 5 :: vs 6 :: vs 7 :: vs 8 :: vs 9 :: vs 10 :: vs 11 :: vs 12 :: vs 13 :: vs 14 :: vs 15 :: vs 16 :: vs 17 :: vs 18 :: vs 19 :: vs 20 :: vs 21 :: vs 22 :: vs 23 :: vs 24 :: vs 25 :: vs 26 :: vs 27 :: vs 28 :: vs 29 :: u59 :: undef :: undef :: undef :: undef :: undef :: undef :: undef :: undef :: undef :: undef :: undef :: undef :: undef :: undef :: []), defers := [] } := ⟨_, rfl⟩
          have HLIT := Lib.hid hlit
          clear hlit
          obtain ⟨val, hval⟩ : ∃ val : List Value, val = [.agg #[.int .i64 v, .int .i64 (D : Int), .int .i64 c], .int .i64 (k : Int), .bool true, .bool true, .slice (some ⟨b1, o1, none⟩) L.length sc, .int .i64 (k : Int), .pointer (some ⟨b1, o1 + k * 4, none⟩), .pointer (some ⟨b1, o1 + k * 4, none⟩), .int .i64 ka, .slice (some ⟨b1, o1, none⟩) L.length sc, .int .i64 (i : Int), .pointer (some ⟨b1, o1 + i * 4, none⟩), .pointer (some ⟨b1, o1 + i * 4, none⟩), .int .i64 A, .int .i64 (A + 16), .bool false, .bool false, .slice (some ⟨b1, o1, none⟩) L.length sc, .int .i64 (k : Int), .pointer (some ⟨b1, o1 + k * 4, none⟩), .pointer (some ⟨b1, o1 + k * 4 + 1, none⟩), .int .i64 kb, .slice (some ⟨b1, o1, none⟩) L.length sc, .int .i64 (i : Int), .pointer (some ⟨b1, o1 + i * 4, none⟩), .pointer (some ⟨b1, o1 + i * 4 + 1, none⟩), .int .i64 Bi, .bool true, .bool true, .bool true] := ⟨_, rfl⟩
          have E0 := Lib.hid (show val.getD 0 undef = .agg #[.int .i64 v, .int .i64 (D : Int), .int .i64 c] by rw [hval]; rfl)
          have E1 := Lib.hid (show val.getD 1 undef = .int .i64 (k : Int) by rw [hval]; rfl)
          have E2 := Lib.hid (show val.getD 2 undef = .bool true by rw [hval]; rfl)
          have E3 := Lib.hid (show val.getD 3 undef = .bool true by rw [hval]; rfl)
          have E4 := Lib.hid (show val.getD 4 undef = .slice (some ⟨b1, o1, none⟩) L.length sc by rw [hval]; rfl)
          have E5 := Lib.hid (show val.getD 5 undef = .int .i64 (k : Int) by rw [hval]; rfl)
          have E6 := Lib.hid (show val.getD 6 undef = .pointer (some ⟨b1, o1 + k * 4, none⟩) by rw [hval]; rfl)
          have E7 := Lib.hid (show val.getD 7 undef = .pointer (some ⟨b1, o1 + k * 4, none⟩) by rw [hval]; rfl)
          have E8 := Lib.hid (show val.getD 8 undef = .int .i64 ka by rw [hval]; rfl)
          have E9 := Lib.hid (show val.getD 9 undef = .slice (some ⟨b1, o1, none⟩) L.length sc by rw [hval]; rfl)
          have E10 := Lib.hid (show val.getD 10 undef = .int .i64 (i : Int) by rw [hval]; rfl)
          have E11 := Lib.hid (show val.getD 11 undef = .pointer (some ⟨b1, o1 + i * 4, none⟩) by rw [hval]; rfl)
          have E12 := Lib.hid (show val.getD 12 undef = .pointer (some ⟨b1, o1 + i * 4, none⟩) by rw [hval]; rfl)
          have E13 := Lib.hid (show val.getD 13 undef = .int .i64 A by rw [hval]; rfl)
          have E14 := Lib.hid (show val.getD 14 undef = .int .i64 (A + 16) by rw [hval]; rfl)
          have E15 := Lib.hid (show val.getD 15 undef = .bool false by rw [hval]; rfl)
          have E16 := Lib.hid (show val.getD 16 undef = .bool false by rw [hval]; rfl)
          have E17 := Lib.hid (show val.getD 17 undef = .slice (some ⟨b1, o1, none⟩) L.length sc by rw [hval]; rfl)
          have E18 := Lib.hid (show val.getD 18 undef = .int .i64 (k : Int) by rw [hval]; rfl)
          have E19 := Lib.hid (show val.getD 19 undef = .pointer (some ⟨b1, o1 + k * 4, none⟩) by rw [hval]; rfl)
          have E20 := Lib.hid (show val.getD 20 undef = .pointer (some ⟨b1, o1 + k * 4 + 1, none⟩) by rw [hval]; rfl)
          have E21 := Lib.hid (show val.getD 21 undef = .int .i64 kb by rw [hval]; rfl)
          have E22 := Lib.hid (show val.getD 22 undef = .slice (some ⟨b1, o1, none⟩) L.length sc by rw [hval]; rfl)
          have E23 := Lib.hid (show val.getD 23 undef = .int .i64 (i : Int) by rw [hval]; rfl)
          have E24 := Lib.hid (show val.getD 24 undef = .pointer (some ⟨b1, o1 + i * 4, none⟩) by rw [hval]; rfl)
          have E25 := Lib.hid (show val.getD 25 undef = .pointer (some ⟨b1, o1 + i * 4 + 1, none⟩) by rw [hval]; rfl)
          have E26 := Lib.hid (show val.getD 26 undef = .int .i64 Bi by rw [hval]; rfl)
          have E27 := Lib.hid (show val.getD 27 undef = .bool true by rw [hval]; rfl)
          have E28 := Lib.hid (show val.getD 28 undef = .bool true by rw [hval]; rfl)
          have E29 := Lib.hid (show val.getD 29 undef = .bool true by rw [hval]; rfl)
          clear hval
          obtain ⟨G, hG0⟩ : ∃ G : Nat → Value → World → Prop, G = (fun i v w => (v = val.getD i undef)) := ⟨_, rfl⟩
          have HG := Lib.hid hG0
          clear hG0
          refine region_inv (RS lit wr G) (by kernel_rfl) (by decide +kernel) ?_ ?_ ?_
          · exact ⟨fun i => ([u29, u30, u31, u32, u33, u34, u35, u36, u37, u38, u39, u40, u41, u42, u43, u44, u45, u46, u47, u48, u49, u50, u51, u52, u53, u54, u55, u56, u57, u58] : List Value).getD i undef, (by rw [HLIT.out]; rfl), below_drew _ _, fun i h => by cases h⟩
          · refine ⟨?_, ?_, ?_, ?_, ?_, ?_, ?_, ?_, ?_, ?_, ?_, ?_, ?_, ?_, ?_, ?_, ?_, ?_, ?_, ?_, ?_, ?_, ?_, ?_, ?_, ?_, ?_, ?_, ?_, ?_, trivial⟩
            · intro bf ac wv hfb haf hJ K' hK
              obtain ⟨vs, rfl, hM, j4⟩ := hJ
              replace hK := Lib.hid hK
              replace hM := Lib.hid hM
              rw [HG.out] at j4
              replace j4 := Lib.hid j4
              clear haf hfb
              have xx := HCr.out.step hM.out
              have xx0 := xx.c 0 rfl
              have xx1 := xx.c 1 rfl
              have xx2 := xx.c 2 rfl
              have xxz := xx.2.2
              clear xx
              rw [HLIT.out]
              go_simp
              exact hK.out _ _ (RS.next (wv := wv) (vs := vs) 0 (x := .agg #[.int .i64 v, .int .i64 (D : Int), .int .i64 c]) (by rw [HLIT.out]; rfl) (by rw [HG.out]; exact j4.out) hM.out (by rw [HG.out]; exact fun _ _ h => h) (by rw [HG.out]; exact E0.out.symm))
            · intro bf ac wv hfb haf hJ K' hK
              obtain ⟨vs, rfl, hM, j4⟩ := hJ
              replace hK := Lib.hid hK
              replace hM := Lib.hid hM
              rw [HG.out] at j4
              replace j4 := Lib.hid j4
              clear haf hfb
              rw [HLIT.out]
              go_simp
              exact hK.out _ _ (RS.next (wv := wv) (vs := vs) 1 (x := .int .i64 (k : Int)) (by rw [HLIT.out]; rfl) (by rw [HG.out]; exact j4.out) hM.out (by rw [HG.out]; exact fun _ _ h => h) (by rw [HG.out]; exact E1.out.symm))
            · intro bf ac wv hfb haf hJ K' hK
              obtain ⟨vs, rfl, hM, j4⟩ := hJ
              replace hK := Lib.hid hK
              replace hM := Lib.hid hM
              rw [HG.out] at j4
              simp [Region.binds] at haf
              have e0 := ((j4 0 (by simp [haf]))).trans E0.out
              have e1 := ((j4 1 (by simp [haf]))).trans E1.out
              replace j4 := Lib.hid j4
              clear haf hfb
              rw [HLIT.out]
              go_simp
              go_at_call 28
              refine (done_any _ _ D k hD HKK.out _).mono ?_
              rintro e w4 ⟨rfl, b4⟩
              rw [HBT2.out]
              exact hK.out _ _ (RS.next (wv := wv) (vs := vs) 2 (x := .bool true) (by rw [HLIT.out]; simp only [upv, e0, e1, Nat.reduceBEq, cond_true, cond_false]) (by rw [HG.out]; exact j4.out) (keep2 b4 hM.out) (by rw [HG.out]; exact fun _ _ h => h) (by rw [HG.out]; exact E2.out.symm))
            · intro bf ac wv hfb haf hJ K' hK
              obtain ⟨vs, rfl, hM, j4⟩ := hJ
              replace hK := Lib.hid hK
              replace hM := Lib.hid hM
              rw [HG.out] at j4
              simp [Region.binds] at haf
              have e2 := ((j4 2 (by simp [haf]))).trans E2.out
              replace j4 := Lib.hid j4
              clear haf hfb
              rw [HLIT.out]
              go_simp
              exact hK.out _ _ (RS.next (wv := wv) (vs := vs) 3 (x := .bool true) (by rw [HLIT.out]; simp only [upv, e2, Nat.reduceBEq, cond_true, cond_false]) (by rw [HG.out]; exact j4.out) hM.out (by rw [HG.out]; exact fun _ _ h => h) (by rw [HG.out]; exact E3.out.symm))
            · intro bf ac wv hfb haf hJ K' hK
              obtain ⟨vs, rfl, hM, j4⟩ := hJ
              replace hK := Lib.hid hK
              replace hM := Lib.hid hM
              rw [HG.out] at j4
              simp [Region.binds] at haf
              have e3 := ((j4 3 (by simp [haf]))).trans E3.out
              replace j4 := Lib.hid j4
              clear haf hfb
              rw [HLIT.out]
              go_simp
              exact hK.out _ _ (RS.next (wv := wv) (vs := vs) 4 (x := .slice (some ⟨b1, o1, none⟩) L.length sc) (by rw [HLIT.out]; simp only [upv, e3, Nat.reduceBEq, cond_true, cond_false]) (by rw [HG.out]; exact j4.out) hM.out (by rw [HG.out]; exact fun _ _ h => h) (by rw [HG.out]; exact E4.out.symm))
            · intro bf ac wv hfb haf hJ K' hK
              obtain ⟨vs, rfl, hM, j4⟩ := hJ
              replace hK := Lib.hid hK
              replace hM := Lib.hid hM
              rw [HG.out] at j4
              simp [Region.binds] at haf
              have e3 := ((j4 3 (by simp [haf]))).trans E3.out
              replace j4 := Lib.hid j4
              clear haf hfb
              rw [HLIT.out]
              go_simp
              exact hK.out _ _ (RS.next (wv := wv) (vs := vs) 5 (x := .int .i64 (k : Int)) (by rw [HLIT.out]; simp only [upv, e3, Nat.reduceBEq, cond_true, cond_false]) (by rw [HG.out]; exact j4.out) hM.out (by rw [HG.out]; exact fun _ _ h => h) (by rw [HG.out]; exact E5.out.symm))
            · intro bf ac wv hfb haf hJ K' hK
              obtain ⟨vs, rfl, hM, j4⟩ := hJ
              replace hK := Lib.hid hK
              replace hM := Lib.hid hM
              rw [HG.out] at j4
              simp [Region.binds] at haf
              have e3 := ((j4 3 (by simp [haf]))).trans E3.out
              have e4 := ((j4 4 (by simp [haf]))).trans E4.out
              have e5 := ((j4 5 (by simp [haf]))).trans E5.out
              replace j4 := Lib.hid j4
              clear haf hfb
              have hij := HT1.out
              rw [HLIT.out]
              go_simp
              exact hK.out _ _ (RS.next (wv := wv) (vs := vs) 6 (x := .pointer (some ⟨b1, o1 + k * 4, none⟩)) (by rw [HLIT.out]; simp only [upv, e3, e4, e5, Nat.reduceBEq, cond_true, cond_false]) (by rw [HG.out]; exact j4.out) hM.out (by rw [HG.out]; exact fun _ _ h => h) (by rw [HG.out]; exact E6.out.symm))
            · intro bf ac wv hfb haf hJ K' hK
              obtain ⟨vs, rfl, hM, j4⟩ := hJ
              replace hK := Lib.hid hK
              replace hM := Lib.hid hM
              rw [HG.out] at j4
              simp [Region.binds] at haf
              have e3 := ((j4 3 (by simp [haf]))).trans E3.out
              have e6 := ((j4 6 (by simp [haf]))).trans E6.out
              replace j4 := Lib.hid j4
              clear haf hfb
              rw [HLIT.out]
              go_simp
              exact hK.out _ _ (RS.next (wv := wv) (vs := vs) 7 (x := .pointer (some ⟨b1, o1 + k * 4, none⟩)) (by rw [HLIT.out]; simp only [upv, e3, e6, Nat.reduceBEq, cond_true, cond_false]) (by rw [HG.out]; exact j4.out) hM.out (by rw [HG.out]; exact fun _ _ h => h) (by rw [HG.out]; exact E7.out.symm))
            · intro bf ac wv hfb haf hJ K' hK
              obtain ⟨vs, rfl, hM, j4⟩ := hJ
              replace hK := Lib.hid hK
              replace hM := Lib.hid hM
              rw [HG.out] at j4
              simp [Region.binds] at haf
              have e3 := ((j4 3 (by simp [haf]))).trans E3.out
              have e7 := ((j4 7 (by simp [haf]))).trans E7.out
              replace j4 := Lib.hid j4
              clear haf hfb
              have yA := keep1 hM.out HK0.out
              have yAz := World.block_lt_of_cell? _ _ yA
              rw [HLIT.out]
              go_simp
              exact hK.out _ _ (RS.next (wv := wv) (vs := vs) 8 (x := .int .i64 ka) (by rw [HLIT.out]; simp only [upv, e3, e7, Nat.reduceBEq, cond_true, cond_false]) (by rw [HG.out]; exact j4.out) hM.out (by rw [HG.out]; exact fun _ _ h => h) (by rw [HG.out]; exact E8.out.symm))
            · intro bf ac wv hfb haf hJ K' hK
              obtain ⟨vs, rfl, hM, j4⟩ := hJ
              replace hK := Lib.hid hK
              replace hM := Lib.hid hM
              rw [HG.out] at j4
              simp [Region.binds] at haf
              have e3 := ((j4 3 (by simp [haf]))).trans E3.out
              replace j4 := Lib.hid j4
              clear haf hfb
              rw [HLIT.out]
              go_simp
              exact hK.out _ _ (RS.next (wv := wv) (vs := vs) 9 (x := .slice (some ⟨b1, o1, none⟩) L.length sc) (by rw [HLIT.out]; simp only [upv, e3, Nat.reduceBEq, cond_true, cond_false]) (by rw [HG.out]; exact j4.out) hM.out (by rw [HG.out]; exact fun _ _ h => h) (by rw [HG.out]; exact E9.out.symm))
            · intro bf ac wv hfb haf hJ K' hK
              obtain ⟨vs, rfl, hM, j4⟩ := hJ
              replace hK := Lib.hid hK
              replace hM := Lib.hid hM
              rw [HG.out] at j4
              simp [Region.binds] at haf
              have e3 := ((j4 3 (by simp [haf]))).trans E3.out
              replace j4 := Lib.hid j4
              clear haf hfb
              rw [HLIT.out]
              go_simp
              exact hK.out _ _ (RS.next (wv := wv) (vs := vs) 10 (x := .int .i64 (i : Int)) (by rw [HLIT.out]; simp only [upv, e3, Nat.reduceBEq, cond_true, cond_false]) (by rw [HG.out]; exact j4.out) hM.out (by rw [HG.out]; exact fun _ _ h => h) (by rw [HG.out]; exact E10.out.symm))
            · intro bf ac wv hfb haf hJ K' hK
              obtain ⟨vs, rfl, hM, j4⟩ := hJ
              replace hK := Lib.hid hK
              replace hM := Lib.hid hM
              rw [HG.out] at j4
              simp [Region.binds] at haf
              have e3 := ((j4 3 (by simp [haf]))).trans E3.out
              have e9 := ((j4 9 (by simp [haf]))).trans E9.out
              have e10 := ((j4 10 (by simp [haf]))).trans E10.out
              replace j4 := Lib.hid j4
              clear haf hfb
              have hij := HIJ.out
              rw [HLIT.out]
              go_simp
              exact hK.out _ _ (RS.next (wv := wv) (vs := vs) 11 (x := .pointer (some ⟨b1, o1 + i * 4, none⟩)) (by rw [HLIT.out]; simp only [upv, e3, e9, e10, Nat.reduceBEq, cond_true, cond_false]) (by rw [HG.out]; exact j4.out) hM.out (by rw [HG.out]; exact fun _ _ h => h) (by rw [HG.out]; exact E11.out.symm))
            · intro bf ac wv hfb haf hJ K' hK
              obtain ⟨vs, rfl, hM, j4⟩ := hJ
              replace hK := Lib.hid hK
              replace hM := Lib.hid hM
              rw [HG.out] at j4
              simp [Region.binds] at haf
              have e3 := ((j4 3 (by simp [haf]))).trans E3.out
              have e11 := ((j4 11 (by simp [haf]))).trans E11.out
              replace j4 := Lib.hid j4
              clear haf hfb
              rw [HLIT.out]
              go_simp
              exact hK.out _ _ (RS.next (wv := wv) (vs := vs) 12 (x := .pointer (some ⟨b1, o1 + i * 4, none⟩)) (by rw [HLIT.out]; simp only [upv, e3, e11, Nat.reduceBEq, cond_true, cond_false]) (by rw [HG.out]; exact j4.out) hM.out (by rw [HG.out]; exact fun _ _ h => h) (by rw [HG.out]; exact E12.out.symm))
            · intro bf ac wv hfb haf hJ K' hK
              obtain ⟨vs, rfl, hM, j4⟩ := hJ
              replace hK := Lib.hid hK
              replace hM := Lib.hid hM
              rw [HG.out] at j4
              simp [Region.binds] at haf
              have e3 := ((j4 3 (by simp [haf]))).trans E3.out
              have e12 := ((j4 12 (by simp [haf]))).trans E12.out
              replace j4 := Lib.hid j4
              clear haf hfb
              have yA := keep1 hM.out HY0r.out
              have yAz := World.block_lt_of_cell? _ _ yA
              rw [HLIT.out]
              go_simp
              exact hK.out _ _ (RS.next (wv := wv) (vs := vs) 13 (x := .int .i64 A) (by rw [HLIT.out]; simp only [upv, e3, e12, Nat.reduceBEq, cond_true, cond_false]) (by rw [HG.out]; exact j4.out) hM.out (by rw [HG.out]; exact fun _ _ h => h) (by rw [HG.out]; exact E13.out.symm))
            · intro bf ac wv hfb haf hJ K' hK
              obtain ⟨vs, rfl, hM, j4⟩ := hJ
              replace hK := Lib.hid hK
              replace hM := Lib.hid hM
              rw [HG.out] at j4
              simp [Region.binds] at haf
              have e3 := ((j4 3 (by simp [haf]))).trans E3.out
              have e13 := ((j4 13 (by simp [haf]))).trans E13.out
              replace j4 := Lib.hid j4
              clear haf hfb
              have hA16 := HA16.out
              have hA16b := HA17.out
              rw [HLIT.out]
              go_simp
              exact hK.out _ _ (RS.next (wv := wv) (vs := vs) 14 (x := .int .i64 (A + 16)) (by rw [HLIT.out]; simp only [upv, e3, e13, Nat.reduceBEq, cond_true, cond_false]) (by rw [HG.out]; exact j4.out) hM.out (by rw [HG.out]; exact fun _ _ h => h) (by rw [HG.out]; exact E14.out.symm))
            · intro bf ac wv hfb haf hJ K' hK
              obtain ⟨vs, rfl, hM, j4⟩ := hJ
              replace hK := Lib.hid hK
              replace hM := Lib.hid hM
              rw [HG.out] at j4
              simp [Region.binds] at haf
              have e3 := ((j4 3 (by simp [haf]))).trans E3.out
              have e8 := ((j4 8 (by simp [haf]))).trans E8.out
              have e14 := ((j4 14 (by simp [haf]))).trans E14.out
              replace j4 := Lib.hid j4
              clear haf hfb
              rw [HLIT.out]
              go_simp
              exact hK.out _ _ (RS.next (wv := wv) (vs := vs) 15 (x := .bool false) (by rw [HLIT.out]; simp only [upv, e3, e8, e14, Nat.reduceBEq, cond_true, cond_false]) (by rw [HG.out]; exact j4.out) hM.out (by rw [HG.out]; exact fun _ _ h => h) (by rw [HG.out]; exact E15.out.symm))
            · intro bf ac wv hfb haf hJ K' hK
              obtain ⟨vs, rfl, hM, j4⟩ := hJ
              replace hK := Lib.hid hK
              replace hM := Lib.hid hM
              rw [HG.out] at j4
              simp [Region.binds] at haf
              have e3 := ((j4 3 (by simp [haf]))).trans E3.out
              have e15 := ((j4 15 (by simp [haf]))).trans E15.out
              replace j4 := Lib.hid j4
              clear haf hfb
              rw [HLIT.out]
              go_simp
              exact hK.out _ _ (RS.next (wv := wv) (vs := vs) 16 (x := .bool false) (by rw [HLIT.out]; simp only [upv, e3, e15, Nat.reduceBEq, cond_true, cond_false]) (by rw [HG.out]; exact j4.out) hM.out (by rw [HG.out]; exact fun _ _ h => h) (by rw [HG.out]; exact E16.out.symm))
            · intro bf ac wv hfb haf hJ K' hK
              obtain ⟨vs, rfl, hM, j4⟩ := hJ
              replace hK := Lib.hid hK
              replace hM := Lib.hid hM
              rw [HG.out] at j4
              simp [Region.binds] at haf
              have e16 := ((j4 16 (by simp [haf]))).trans E16.out
              replace j4 := Lib.hid j4
              clear haf hfb
              rw [HLIT.out]
              go_simp
              exact hK.out _ _ (RS.next (wv := wv) (vs := vs) 17 (x := .slice (some ⟨b1, o1, none⟩) L.length sc) (by rw [HLIT.out]; simp only [upv, e16, Nat.reduceBEq, cond_true, cond_false]) (by rw [HG.out]; exact j4.out) hM.out (by rw [HG.out]; exact fun _ _ h => h) (by rw [HG.out]; exact E17.out.symm))
            · intro bf ac wv hfb haf hJ K' hK
              obtain ⟨vs, rfl, hM, j4⟩ := hJ
              replace hK := Lib.hid hK
              replace hM := Lib.hid hM
              rw [HG.out] at j4
              simp [Region.binds] at haf
              have e16 := ((j4 16 (by simp [haf]))).trans E16.out
              replace j4 := Lib.hid j4
              clear haf hfb
              rw [HLIT.out]
              go_simp
              exact hK.out _ _ (RS.next (wv := wv) (vs := vs) 18 (x := .int .i64 (k : Int)) (by rw [HLIT.out]; simp only [upv, e16, Nat.reduceBEq, cond_true, cond_false]) (by rw [HG.out]; exact j4.out) hM.out (by rw [HG.out]; exact fun _ _ h => h) (by rw [HG.out]; exact E18.out.symm))
            · intro bf ac wv hfb haf hJ K' hK
              obtain ⟨vs, rfl, hM, j4⟩ := hJ
              replace hK := Lib.hid hK
              replace hM := Lib.hid hM
              rw [HG.out] at j4
              simp [Region.binds] at haf
              have e16 := ((j4 16 (by simp [haf]))).trans E16.out
              have e17 := ((j4 17 (by simp [haf]))).trans E17.out
              have e18 := ((j4 18 (by simp [haf]))).trans E18.out
              replace j4 := Lib.hid j4
              clear haf hfb
              have hij := HT1.out
              rw [HLIT.out]
              go_simp
              exact hK.out _ _ (RS.next (wv := wv) (vs := vs) 19 (x := .pointer (some ⟨b1, o1 + k * 4, none⟩)) (by rw [HLIT.out]; simp only [upv, e16, e17, e18, Nat.reduceBEq, cond_true, cond_false]) (by rw [HG.out]; exact j4.out) hM.out (by rw [HG.out]; exact fun _ _ h => h) (by rw [HG.out]; exact E19.out.symm))
            · intro bf ac wv hfb haf hJ K' hK
              obtain ⟨vs, rfl, hM, j4⟩ := hJ
              replace hK := Lib.hid hK
              replace hM := Lib.hid hM
              rw [HG.out] at j4
              simp [Region.binds] at haf
              have e16 := ((j4 16 (by simp [haf]))).trans E16.out
              have e19 := ((j4 19 (by simp [haf]))).trans E19.out
              replace j4 := Lib.hid j4
              clear haf hfb
              rw [HLIT.out]
              go_simp
              exact hK.out _ _ (RS.next (wv := wv) (vs := vs) 20 (x := .pointer (some ⟨b1, o1 + k * 4 + 1, none⟩)) (by rw [HLIT.out]; simp only [upv, e16, e19, Nat.reduceBEq, cond_true, cond_false]) (by rw [HG.out]; exact j4.out) hM.out (by rw [HG.out]; exact fun _ _ h => h) (by rw [HG.out]; exact E20.out.symm))
            · intro bf ac wv hfb haf hJ K' hK
              obtain ⟨vs, rfl, hM, j4⟩ := hJ
              replace hK := Lib.hid hK
              replace hM := Lib.hid hM
              rw [HG.out] at j4
              simp [Region.binds] at haf
              have e16 := ((j4 16 (by simp [haf]))).trans E16.out
              have e20 := ((j4 20 (by simp [haf]))).trans E20.out
              replace j4 := Lib.hid j4
              clear haf hfb
              have yA := keep1 hM.out HK1.out
              have yAz := World.block_lt_of_cell? _ _ yA
              rw [HLIT.out]
              go_simp
              exact hK.out _ _ (RS.next (wv := wv) (vs := vs) 21 (x := .int .i64 kb) (by rw [HLIT.out]; simp only [upv, e16, e20, Nat.reduceBEq, cond_true, cond_false]) (by rw [HG.out]; exact j4.out) hM.out (by rw [HG.out]; exact fun _ _ h => h) (by rw [HG.out]; exact E21.out.symm))
            · intro bf ac wv hfb haf hJ K' hK
              obtain ⟨vs, rfl, hM, j4⟩ := hJ
              replace hK := Lib.hid hK
              replace hM := Lib.hid hM
              rw [HG.out] at j4
              simp [Region.binds] at haf
              have e16 := ((j4 16 (by simp [haf]))).trans E16.out
              replace j4 := Lib.hid j4
              clear haf hfb
              rw [HLIT.out]
              go_simp
              exact hK.out _ _ (RS.next (wv := wv) (vs := vs) 22 (x := .slice (some ⟨b1, o1, none⟩) L.length sc) (by rw [HLIT.out]; simp only [upv, e16, Nat.reduceBEq, cond_true, cond_false]) (by rw [HG.out]; exact j4.out) hM.out (by rw [HG.out]; exact fun _ _ h => h) (by rw [HG.out]; exact E22.out.symm))
            · intro bf ac wv hfb haf hJ K' hK
              obtain ⟨vs, rfl, hM, j4⟩ := hJ
              replace hK := Lib.hid hK
              replace hM := Lib.hid hM
              rw [HG.out] at j4
              simp [Region.binds] at haf
              have e16 := ((j4 16 (by simp [haf]))).trans E16.out
              replace j4 := Lib.hid j4
              clear haf hfb
              rw [HLIT.out]
              go_simp
              exact hK.out _ _ (RS.next (wv := wv) (vs := vs) 23 (x := .int .i64 (i : Int)) (by rw [HLIT.out]; simp only [upv, e16, Nat.reduceBEq, cond_true, cond_false]) (by rw [HG.out]; exact j4.out) hM.out (by rw [HG.out]; exact fun _ _ h => h) (by rw [HG.out]; exact E23.out.symm))
            · intro bf ac wv hfb haf hJ K' hK
              obtain ⟨vs, rfl, hM, j4⟩ := hJ
              replace hK := Lib.hid hK
              replace hM := Lib.hid hM
              rw [HG.out] at j4
              simp [Region.binds] at haf
              have e16 := ((j4 16 (by simp [haf]))).trans E16.out
              have e22 := ((j4 22 (by simp [haf]))).trans E22.out
              have e23 := ((j4 23 (by simp [haf]))).trans E23.out
              replace j4 := Lib.hid j4
              clear haf hfb
              have hij := HIJ.out
              rw [HLIT.out]
              go_simp
              exact hK.out _ _ (RS.next (wv := wv) (vs := vs) 24 (x := .pointer (some ⟨b1, o1 + i * 4, none⟩)) (by rw [HLIT.out]; simp only [upv, e16, e22, e23, Nat.reduceBEq, cond_true, cond_false]) (by rw [HG.out]; exact j4.out) hM.out (by rw [HG.out]; exact fun _ _ h => h) (by rw [HG.out]; exact E24.out.symm))
            · intro bf ac wv hfb haf hJ K' hK
              obtain ⟨vs, rfl, hM, j4⟩ := hJ
              replace hK := Lib.hid hK
              replace hM := Lib.hid hM
              rw [HG.out] at j4
              simp [Region.binds] at haf
              have e16 := ((j4 16 (by simp [haf]))).trans E16.out
              have e24 := ((j4 24 (by simp [haf]))).trans E24.out
              replace j4 := Lib.hid j4
              clear haf hfb
              rw [HLIT.out]
              go_simp
              exact hK.out _ _ (RS.next (wv := wv) (vs := vs) 25 (x := .pointer (some ⟨b1, o1 + i * 4 + 1, none⟩)) (by rw [HLIT.out]; simp only [upv, e16, e24, Nat.reduceBEq, cond_true, cond_false]) (by rw [HG.out]; exact j4.out) hM.out (by rw [HG.out]; exact fun _ _ h => h) (by rw [HG.out]; exact E25.out.symm))
            · intro bf ac wv hfb haf hJ K' hK
              obtain ⟨vs, rfl, hM, j4⟩ := hJ
              replace hK := Lib.hid hK
              replace hM := Lib.hid hM
              rw [HG.out] at j4
              simp [Region.binds] at haf
              have e16 := ((j4 16 (by simp [haf]))).trans E16.out
              have e25 := ((j4 25 (by simp [haf]))).trans E25.out
              replace j4 := Lib.hid j4
              clear haf hfb
              have yA := keep1 hM.out HY1r.out
              have yAz := World.block_lt_of_cell? _ _ yA
              rw [HLIT.out]
              go_simp
              exact hK.out _ _ (RS.next (wv := wv) (vs := vs) 26 (x := .int .i64 Bi) (by rw [HLIT.out]; simp only [upv, e16, e25, Nat.reduceBEq, cond_true, cond_false]) (by rw [HG.out]; exact j4.out) hM.out (by rw [HG.out]; exact fun _ _ h => h) (by rw [HG.out]; exact E26.out.symm))
            · intro bf ac wv hfb haf hJ K' hK
              obtain ⟨vs, rfl, hM, j4⟩ := hJ
              replace hK := Lib.hid hK
              replace hM := Lib.hid hM
              rw [HG.out] at j4
              simp [Region.binds] at haf
              have e16 := ((j4 16 (by simp [haf]))).trans E16.out
              have e21 := ((j4 21 (by simp [haf]))).trans E21.out
              have e26 := ((j4 26 (by simp [haf]))).trans E26.out
              replace j4 := Lib.hid j4
              clear haf hfb
              rw [HLIT.out]
              go_simp
              exact hK.out _ _ (RS.next (wv := wv) (vs := vs) 27 (x := .bool true) (by rw [HLIT.out]; simp only [upv, e16, e21, e26, Nat.reduceBEq, cond_true, cond_false]) (by rw [HG.out]; exact j4.out) hM.out (by rw [HG.out]; exact fun _ _ h => h) (by rw [HG.out]; exact E27.out.symm))
            · intro bf ac wv hfb haf hJ K' hK
              obtain ⟨vs, rfl, hM, j4⟩ := hJ
              replace hK := Lib.hid hK
              replace hM := Lib.hid hM
              rw [HG.out] at j4
              simp [Region.binds] at haf
              have e3 := ((j4 3 (by simp [haf]))).trans E3.out
              have e16 := ((j4 16 (by simp [haf]))).trans E16.out
              have e27 := ((j4 27 (by simp [haf]))).trans E27.out
              replace j4 := Lib.hid j4
              clear haf hfb
              rw [HLIT.out]
              go_simp
              exact hK.out _ _ (RS.next (wv := wv) (vs := vs) 28 (x := .bool true) (by rw [HLIT.out]; simp only [upv, e3, e16, e27, Nat.reduceBEq, cond_true, cond_false]) (by rw [HG.out]; exact j4.out) hM.out (by rw [HG.out]; exact fun _ _ h => h) (by rw [HG.out]; exact E28.out.symm))
            · intro bf ac wv hfb haf hJ K' hK
              obtain ⟨vs, rfl, hM, j4⟩ := hJ
              replace hK := Lib.hid hK
              replace hM := Lib.hid hM
              rw [HG.out] at j4
              simp [Region.binds] at haf
              have e3 := ((j4 3 (by simp [haf]))).trans E3.out
              have e28 := ((j4 28 (by simp [haf]))).trans E28.out
              replace j4 := Lib.hid j4
              clear haf hfb
              rw [HLIT.out]
              go_simp
              exact hK.out _ _ (RS.next (wv := wv) (vs := vs) 29 (x := .bool true) (by rw [HLIT.out]; simp only [upv, e3, e28, Nat.reduceBEq, cond_true, cond_false]) (by rw [HG.out]; exact j4.out) hM.out (by rw [HG.out]; exact fun _ _ h => h) (by rw [HG.out]; exact E29.out.symm))
          · intro bf ac wv hall hJ
            obtain ⟨vs, rfl, hM, j4⟩ := hJ
            rw [HG.out] at j4
            have hlast := ((j4 29 (hall 29 (by decide)))).trans E29.out
            clear j4 hall
            rw [HLIT.out]
            dsimp only
            rw [hlast]
            clear hlast
            go_wp2
            go_meet
            exact ⟨by rw [HBV.out], hM⟩
        have z2 : decide (Bi < kb) = false := decide_eq_false g2
        have HBV := Lib.hid (show blB L D i k = false from by rw [HBL.out, hbk, decide_eq_false g1, decide_eq_false g2]; rfl)
        obtain ⟨lit, hlit⟩ : ∃ lit : (Nat → Value) → Act, lit = fun vs => { tmps := List.toArray (Value.slice (some { block := b1, off := o1 }) L.length sc :: Value.agg #[Value.int IntKind.i64 v, Value.int IntKind.i64 (D : Int), Value.int IntKind.i64 c] :: Value.int IntKind.i64 (i : Int) :: undef :: Value.pointer (some { block := w.heap.size, off := 0 }) :: undef :: Value.pointer (some { block := w.heap.size + 1, off := 0 }) :: u7 :: Value.int IntKind.i64 (k : Int) :: u9 :: u10 :: u11 :: u12 :: u13 :: u14 :: u15 :: u16 :: u17 :: u18 :: u19 :: u20 :: Value.bool false :: undef :: Value.int IntKind.i64 (k : Int) :: Value.slice (some { block := b1, off := o1 }) L.length sc :: Value.int IntKind.i64 (L.length : Int) :: Value.bool true :: u27 :: u28 :: vs 0 :: vs 1 :: vs 2 :: vs 3 :: vs 4 :: vs 5 :: vs 6 :: vs 7 :: vs 8 :: vs 9 :: vs 10 :: vs 11 :: vs 12 :: vs 13 :: vs 14 :: vs 15 :: vs 16 :: vs 17 :: vs 18 :: vs 19 :: vs 20 :: vs 21 :: vs 22 :: vs 23 :: vs 24 :: vs 25 :: vs 26 :: vs 27 :: vs 28 :: vs 29 :: u59 :: undef :: undef :: undef :: undef :: undef :: undef :: undef :: undef :: undef :: undef :: undef :: undef :: undef :: undef :: []), defers := [] } := ⟨_, rfl⟩
        have HLIT := Lib.hid hlit
        clear hlit
        obtain ⟨val, hval⟩ : ∃ val : List Value, val = [.agg #[.int .i64 v, .int .i64 (D : Int), .int .i64 c], .int .i64 (k : Int), .bool true, .bool true, .slice (some ⟨b1, o1, none⟩) L.length sc, .int .i64 (k : Int), .pointer (some ⟨b1, o1 + k * 4, none⟩), .pointer (some ⟨b1, o1 + k * 4, none⟩), .int .i64 ka, .slice (some ⟨b1, o1, none⟩) L.length sc, .int .i64 (i : Int), .pointer (some ⟨b1, o1 + i * 4, none⟩), .pointer (some ⟨b1, o1 + i * 4, none⟩), .int .i64 A, .int .i64 (A + 16), .bool false, .bool false, .slice (some ⟨b1, o1, none⟩) L.length sc, .int .i64 (k : Int), .pointer (some ⟨b1, o1 + k * 4, none⟩), .pointer (some ⟨b1, o1 + k * 4 + 1, none⟩), .int .i64 kb, .slice (some ⟨b1, o1, none⟩) L.length sc, .int .i64 (i : Int), .pointer (some ⟨b1, o1 + i * 4, none⟩), .pointer (some ⟨b1, o1 + i * 4 + 1, none⟩), .int .i64 Bi, .bool false, .bool false, .bool false] := ⟨_, rfl⟩
        have E0 := Lib.hid (show val.getD 0 undef = .agg #[.int .i64 v, .int .i64 (D : Int), .int .i64 c] by rw [hval]; rfl)
        have E1 := Lib.hid (show val.getD 1 undef = .int .i64 (k : Int) by rw [hval]; rfl)
        have E2 := Lib.hid (show val.getD 2 undef = .bool true by rw [hval]; rfl)
        have E3 := Lib.hid (show val.getD 3 undef = .bool true by rw [hval]; rfl)
        have E4 := Lib.hid (show val.getD 4 undef = .slice (some ⟨b1, o1, none⟩) L.length sc by rw [hval]; rfl)
        have E5 := Lib.hid (show val.getD 5 undef = .int .i64 (k : Int) by rw [hval]; rfl)
        have E6 := Lib.hid (show val.getD 6 undef = .pointer (some ⟨b1, o1 + k * 4, none⟩) by rw [hval]; rfl)
        have E7 := Lib.hid (show val.getD 7 undef = .pointer (some ⟨b1, o1 + k * 4, none⟩) by rw [hval]; rfl)
        have E8 := Lib.hid (show val.getD 8 undef = .int .i64 ka by rw [hval]; rfl)
        have E9 := Lib.hid (show val.getD 9 undef = .slice (some ⟨b1, o1, none⟩) L.length sc by rw [hval]; rfl)
        have E10 := Lib.hid (show val.getD 10 undef = .int .i64 (i : Int) by rw [hval]; rfl)
        have E11 := Lib.hid (show val.getD 11 undef = .pointer (some ⟨b1, o1 + i * 4, none⟩) by rw [hval]; rfl)
        have E12 := Lib.hid (show val.getD 12 undef = .pointer (some ⟨b1, o1 + i * 4, none⟩) by rw [hval]; rfl)
        have E13 := Lib.hid (show val.getD 13 undef = .int .i64 A by rw [hval]; rfl)
        have E14 := Lib.hid (show val.getD 14 undef = .int .i64 (A + 16) by rw [hval]; rfl)
        have E15 := Lib.hid (show val.getD 15 undef = .bool false by rw [hval]; rfl)
        have E16 := Lib.hid (show val.getD 16 undef = .bool false by rw [hval]; rfl)
        have E17 := Lib.hid (show val.getD 17 undef = .slice (some ⟨b1, o1, none⟩) L.length sc by rw [hval]; rfl)
        have E18 := Lib.hid (show val.getD 18 undef = .int .i64 (k : Int) by rw [hval]; rfl)
        have E19 := Lib.hid (show val.getD 19 undef = .pointer (some ⟨b1, o1 + k * 4, none⟩) by rw [hval]; rfl)
        have E20 := Lib.hid (show val.getD 20 undef = .pointer (some ⟨b1, o1 + k * 4 + 1, none⟩) by rw [hval]; rfl)
        have E21 := Lib.hid (show val.getD 21 undef = .int .i64 kb by rw [hval]; rfl)
        have E22 := Lib.hid (show val.getD 22 undef = .slice (some ⟨b1, o1, none⟩) L.length sc by rw [hval]; rfl)
        have E23 := Lib.hid (show val.getD 23 undef = .int .i64 (i : Int) by rw [hval]; rfl)
        have E24 := Lib.hid (show val.getD 24 undef = .pointer (some ⟨b1, o1 + i * 4, none⟩) by rw [hval]; rfl)
        have E25 := Lib.hid (show val.getD 25 undef = .pointer (some ⟨b1, o1 + i * 4 + 1, none⟩) by rw [hval]; rfl)
        have E26 := Lib.hid (show val.getD 26 undef = .int .i64 Bi by rw [hval]; rfl)
        have E27 := Lib.hid (show val.getD 27 undef = .bool false by rw [hval]; rfl)
        have E28 := Lib.hid (show val.getD 28 undef = .bool false by rw [hval]; rfl)
        have E29 := Lib.hid (show val.getD 29 undef = .bool false by rw [hval]; rfl)
        clear hval
        obtain ⟨G, hG0⟩ : ∃ G : Nat → Value → World → Prop, G = (fun i v w => (v = val.getD i undef)) := ⟨_, rfl⟩
        have HG := Lib.hid hG0
        clear hG0
        refine region_inv (RS lit wr G) (by kernel_rfl) (by decide +kernel) ?_ ?_ ?_
        · exact ⟨fun i => ([u29, u30, u31, u32, u33, u34, u35, u36, u37, u38, u39, u40, u41, u42, u43, u44, u45, u46, u47, u48, u49, u50, u51, u52, u53, u54, u55, u56, u57, u58] : List Value).getD i undef, (by rw [HLIT.out]; rfl), below_drew _ _, fun i h => by cases h⟩
        · refine ⟨?_, ?_, ?_, ?_, ?_, ?_, ?_, ?_, ?_, ?_, ?_, ?_, ?_, ?_, ?_, ?_, ?_, ?_, ?_, ?_, ?_, ?_, ?_, ?_, ?_, ?_, ?_, ?_, ?_, ?_, trivial⟩
          · intro bf ac wv hfb haf hJ K' hK
            obtain ⟨vs, rfl, hM, j4⟩ := hJ
            replace hK := Lib.hid hK
            replace hM := Lib.hid hM
            rw [HG.out] at j4
            replace j4 := Lib.hid j4
            clear haf hfb
            have xx := HCr.out.step hM.out
            have xx0 := xx.c 0 rfl
            have xx1 := xx.c 1 rfl
            have xx2 := xx.c 2 rfl
            have xxz := xx.2.2
            clear xx
            rw [HLIT.out]
            go_simp
            exact hK.out _ _ (RS.next (wv := wv) (vs := vs) 0 (x := .agg #[.int .i64 v, .int .i64 (D : Int), .int .i64 c]) (by rw [HLIT.out]; rfl) (by rw [HG.out]; exact j4.out) hM.out (by rw [HG.out]; exact fun _ _ h => h) (by rw [HG.out]; exact E0.out.symm))
          · intro bf ac wv hfb haf hJ K' hK
            obtain ⟨vs, rfl, hM, j4⟩ := hJ
            replace hK := Lib.hid hK
            replace hM := Lib.hid hM
            rw [HG.out] at j4
            replace j4 := Lib.hid j4
            clear haf hfb
            rw [HLIT.out]
            go_simp
            exact hK.out _ _ (RS.next (wv := wv) (vs := vs) 1 (x := .int .i64 (k : Int)) (by rw [HLIT.out]; rfl) (by rw [HG.out]; exact j4.out) hM.out (by rw [HG.out]; exact fun _ _ h => h) (by rw [HG.out]; exact E1.out.symm))
          · intro bf ac wv hfb haf hJ K' hK
            obtain ⟨vs, rfl, hM, j4⟩ := hJ
            replace hK := Lib.hid hK
            replace hM := Lib.hid hM
            rw [HG.out] at j4
            simp [Region.binds] at haf
            have e0 := ((j4 0 (by simp [haf]))).trans E0.out
            have e1 := ((j4 1 (by simp [haf]))).trans E1.out
            replace j4 := Lib.hid j4
            clear haf hfb
            rw [HLIT.out]
            go_simp
            go_at_call 28
            refine (done_any _ _ D k hD HKK.out _).mono ?_
            rintro e w4 ⟨rfl, b4⟩
            rw [HBT2.out]
            exact hK.out _ _ (RS.next (wv := wv) (vs := vs) 2 (x := .bool true) (by rw [HLIT.out]; simp only [upv, e0, e1, Nat.reduceBEq, cond_true, cond_false]) (by rw [HG.out]; exact j4.out) (keep2 b4 hM.out) (by rw [HG.out]; exact fun _ _ h => h) (by rw [HG.out]; exact E2.out.symm))
          · intro bf ac wv hfb haf hJ K' hK
            obtain ⟨vs, rfl, hM, j4⟩ := hJ
            replace hK := Lib.hid hK
            replace hM := Lib.hid hM
            rw [HG.out] at j4
            simp [Region.binds] at haf
            have e2 := ((j4 2 (by simp [haf]))).trans E2.out
            replace j4 := Lib.hid j4
            clear haf hfb
            rw [HLIT.out]
            go_simp
            exact hK.out _ _ (RS.next (wv := wv) (vs := vs) 3 (x := .bool true) (by rw [HLIT.out]; simp only [upv, e2, Nat.reduceBEq, cond_true, cond_false]) (by rw [HG.out]; exact j4.out) hM.out (by rw [HG.out]; exact fun _ _ h => h) (by rw [HG.out]; exact E3.out.symm))
          · intro bf ac wv hfb haf hJ K' hK
            obtain ⟨vs, rfl, hM, j4⟩ := hJ
            replace hK := Lib.hid hK
            replace hM := Lib.hid hM
            rw [HG.out] at j4
            simp [Region.binds] at haf
            have e3 := ((j4 3 (by simp [haf]))).trans E3.out
            replace j4 := Lib.hid j4
            clear haf hfb
            rw [HLIT.out]
            go_simp
            exact hK.out _ _ (RS.next (wv := wv) (vs := vs) 4 (x := .slice (some ⟨b1, o1, none⟩) L.length sc) (by rw [HLIT.out]; simp only [upv, e3, Nat.reduceBEq, cond_true, cond_false]) (by rw [HG.out]; exact j4.out) hM.out (by rw [HG.out]; exact fun _ _ h => h) (by rw [HG.out]; exact E4.out.symm))
          · intro bf ac wv hfb haf hJ K' hK
            obtain ⟨vs, rfl, hM, j4⟩ := hJ
            replace hK := Lib.hid hK
            replace hM := Lib.hid hM
            rw [HG.out] at j4
            simp [Region.binds] at haf
            have e3 := ((j4 3 (by simp [haf]))).trans E3.out
            replace j4 := Lib.hid j4
            clear haf hfb
            rw [HLIT.out]
            go_simp
            exact hK.out _ _ (RS.next (wv := wv) (vs := vs) 5 (x := .int .i64 (k : Int)) (by rw [HLIT.out]; simp only [upv, e3, Nat.reduceBEq, cond_true, cond_false]) (by rw [HG.out]; exact j4.out) hM.out (by rw [HG.out]; exact fun _ _ h => h) (by rw [HG.out]; exact E5.out.symm))
          · intro bf ac wv hfb haf hJ K' hK
            obtain ⟨vs, rfl, hM, j4⟩ := hJ
            replace hK := Lib.hid hK
            replace hM := Lib.hid hM
            rw [HG.out] at j4
            simp [Region.binds] at haf
            have e3 := ((j4 3 (by simp [haf]))).trans E3.out
            have e4 := ((j4 4 (by simp [haf]))).trans E4.out
            have e5 := ((j4 5 (by simp [haf]))).trans E5.out
            replace j4 := Lib.hid j4
            clear haf hfb
            have hij := HT1.out
            rw [HLIT.out]
            go_simp
            exact hK.out _ _ (RS.next (wv := wv) (vs := vs) 6 (x := .pointer (some ⟨b1, o1 + k * 4, none⟩)) (by rw [HLIT.out]; simp only [upv, e3, e4, e5, Nat.reduceBEq, cond_true, cond_false]) (by rw [HG.out]; exact j4.out) hM.out (by rw [HG.out]; exact fun _ _ h => h) (by rw [HG.out]; exact E6.out.symm))
          · intro bf ac wv hfb haf hJ K' hK
            obtain ⟨vs, rfl, hM, j4⟩ := hJ
            replace hK := Lib.hid hK
            replace hM := Lib.hid hM
            rw [HG.out] at j4
            simp [Region.binds] at haf
            have e3 := ((j4 3 (by simp [haf]))).trans E3.out
            have e6 := ((j4 6 (by simp [haf]))).trans E6.out
            replace j4 := Lib.hid j4
            clear haf hfb
            rw [HLIT.out]
            go_simp
            exact hK.out _ _ (RS.next (wv := wv) (vs := vs) 7 (x := .pointer (some ⟨b1, o1 + k * 4, none⟩)) (by rw [HLIT.out]; simp only [upv, e3, e6, Nat.reduceBEq, cond_true, cond_false]) (by rw [HG.out]; exact j4.out) hM.out (by rw [HG.out]; exact fun _ _ h => h) (by rw [HG.out]; exact E7.out.symm))
          · intro bf ac wv hfb haf hJ K' hK
            obtain ⟨vs, rfl, hM, j4⟩ := hJ
            replace hK := Lib.hid hK
            replace hM := Lib.hid hM
            rw [HG.out] at j4
            simp [Region.binds] at haf
            have e3 := ((j4 3 (by simp [haf]))).trans E3.out
            have e7 := ((j4 7 (by simp [haf]))).trans E7.out
            replace j4 := Lib.hid j4
            clear haf hfb
            have yA := keep1 hM.out HK0.out
            have yAz := World.block_lt_of_cell? _ _ yA
            rw [HLIT.out]
            go_simp
            exact hK.out _ _ (RS.next (wv := wv) (vs := vs) 8 (x := .int .i64 ka) (by rw [HLIT.out]; simp only [upv, e3, e7, Nat.reduceBEq, cond_true, cond_false]) (by rw [HG.out]; exact j4.out) hM.out (by rw [HG.out]; exact fun _ _ h => h) (by rw [HG.out]; exact E8.out.symm))
          · intro bf ac wv hfb haf hJ K' hK
            obtain ⟨vs, rfl, hM, j4⟩ := hJ
            replace hK := Lib.hid hK
            replace hM := Lib.hid hM
            rw [HG.out] at j4
            simp [Region.binds] at haf
            have e3 := ((j4 3 (by simp [haf]))).trans E3.out
            replace j4 := Lib.hid j4
            clear haf hfb
            rw [HLIT.out]
            go_simp
            exact hK.out _ _ (RS.next (wv := wv) (vs := vs) 9 (x := .slice (some ⟨b1, o1, none⟩) L.length sc) (by rw [HLIT.out]; simp only [upv, e3, Nat.reduceBEq, cond_true, cond_false]) (by rw [HG.out]; exact j4.out) hM.out (by rw [HG.out]; exact fun _ _ h => h) (by rw [HG.out]; exact E9.out.symm))
          · intro bf ac wv hfb haf hJ K' hK
            obtain ⟨vs, rfl, hM, j4⟩ := hJ
            replace hK := Lib.hid hK
            replace hM := Lib.hid hM
            rw [HG.out] at j4
            simp [Region.binds] at haf
            have e3 := ((j4 3 (by simp [haf]))).trans E3.out
            replace j4 := Lib.hid j4
            clear haf hfb
            rw [HLIT.out]
            go_simp
            exact hK.out _ _ (RS.next (wv := wv) (vs := vs) 10 (x := .int .i64 (i : Int)) (by rw [HLIT.out]; simp only [upv, e3, Nat.reduceBEq, cond_true, cond_false]) (by rw [HG.out]; exact j4.out) hM.out (by rw [HG.out]; exact fun _ _ h => h) (by rw [HG.out]; exact E10.out.symm))
          · intro bf ac wv hfb haf hJ K' hK
            obtain ⟨vs, rfl, hM, j4⟩ := hJ
            replace hK := Lib.hid hK
            replace hM := Lib.hid hM
            rw [HG.out] at j4
            simp [Region.binds] at haf
            have e3 := ((j4 3 (by simp [haf]))).trans E3.out
            have e9 := ((j4 9 (by simp [haf]))).trans E9.out
            have e10 := ((j4 10 (by simp [haf]))).trans E10.out
            replace j4 := Lib.hid j4
            clear haf hfb
            have hij := HIJ.out
            rw [HLIT.out]
            go_simp
            exact hK.out _ _ (RS.next (wv := wv) (vs := vs) 11 (x := .pointer (some ⟨b1, o1 + i * 4, none⟩)) (by rw [HLIT.out]; simp only [upv, e3, e9, e10, Nat.reduceBEq, cond_true, cond_false]) (by rw [HG.out]; exact j4.out) hM.out (by rw [HG.out]; exact fun _ _ h => h) (by rw [HG.out]; exact E11.out.symm))
          · intro bf ac wv hfb haf hJ K' hK
            obtain ⟨vs, rfl, hM, j4⟩ := hJ
            replace hK := Lib.hid hK
            replace hM := Lib.hid hM
            rw [HG.out] at j4
            simp [Region.binds] at haf
            have e3 := ((j4 3 (by simp [haf]))).trans E3.out
            have e11 := ((j4 11 (by simp [haf]))).trans E11.out
            replace j4 := Lib.hid j4
            clear haf hfb
            rw [HLIT.out]
            go_simp
            exact hK.out _ _ (RS.next (wv := wv) (vs := vs) 12 (x := .pointer (some ⟨b1, o1 + i * 4, none⟩)) (by rw [HLIT.out]; simp only [upv, e3, e11, Nat.reduceBEq, cond_true, cond_false]) (by rw [HG.out]; exact j4.out) hM.out (by rw [HG.out]; exact fun _ _ h => h) (by rw [HG.out]; exact E12.out.symm))
          · intro bf ac wv hfb haf hJ K' hK
            obtain ⟨vs, rfl, hM, j4⟩ := hJ
            replace hK := Lib.hid hK
            replace hM := Lib.hid hM
            rw [HG.out] at j4
            simp [Region.binds] at haf
            have e3 := ((j4 3 (by simp [haf]))).trans E3.out
            have e12 := ((j4 12 (by simp [haf]))).trans E12.out
            replace j4 := Lib.hid j4
            clear haf hfb
            have yA := keep1 hM.out HY0r.out
            have yAz := World.block_lt_of_cell? _ _ yA
            rw [HLIT.out]
            go_simp
            exact hK.out _ _ (RS.next (wv := wv) (vs := vs) 13 (x := .int .i64 A) (by rw [HLIT.out]; simp only [upv, e3, e12, Nat.reduceBEq, cond_true, cond_false]) (by rw [HG.out]; exact j4.out) hM.out (by rw [HG.out]; exact fun _ _ h => h) (by rw [HG.out]; exact E13.out.symm))
          · intro bf ac wv hfb haf hJ K' hK
            obtain ⟨vs, rfl, hM, j4⟩ := hJ
            replace hK := Lib.hid hK
            replace hM := Lib.hid hM
            rw [HG.out] at j4
            simp [Region.binds] at haf
            have e3 := ((j4 3 (by simp [haf]))).trans E3.out
            have e13 := ((j4 13 (by simp [haf]))).trans E13.out
            replace j4 := Lib.hid j4
            clear haf hfb
            have hA16 := HA16.out
            have hA16b := HA17.out
            rw [HLIT.out]
            go_simp
            exact hK.out _ _ (RS.next (wv := wv) (vs := vs) 14 (x := .int .i64 (A + 16)) (by rw [HLIT.out]; simp only [upv, e3, e13, Nat.reduceBEq, cond_true, cond_false]) (by rw [HG.out]; exact j4.out) hM.out (by rw [HG.out]; exact fun _ _ h => h) (by rw [HG.out]; exact E14.out.symm))
          · intro bf ac wv hfb haf hJ K' hK
            obtain ⟨vs, rfl, hM, j4⟩ := hJ
            replace hK := Lib.hid hK
            replace hM := Lib.hid hM
            rw [HG.out] at j4
            simp [Region.binds] at haf
            have e3 := ((j4 3 (by simp [haf]))).trans E3.out
            have e8 := ((j4 8 (by simp [haf]))).trans E8.out
            have e14 := ((j4 14 (by simp [haf]))).trans E14.out
            replace j4 := Lib.hid j4
            clear haf hfb
            rw [HLIT.out]
            go_simp
            exact hK.out _ _ (RS.next (wv := wv) (vs := vs) 15 (x := .bool false) (by rw [HLIT.out]; simp only [upv, e3, e8, e14, Nat.reduceBEq, cond_true, cond_false]) (by rw [HG.out]; exact j4.out) hM.out (by rw [HG.out]; exact fun _ _ h => h) (by rw [HG.out]; exact E15.out.symm))
          · intro bf ac wv hfb haf hJ K' hK
            obtain ⟨vs, rfl, hM, j4⟩ := hJ
            replace hK := Lib.hid hK
            replace hM := Lib.hid hM
            rw [HG.out] at j4
            simp [Region.binds] at haf
            have e3 := ((j4 3 (by simp [haf]))).trans E3.out
            have e15 := ((j4 15 (by simp [haf]))).trans E15.out
            replace j4 := Lib.hid j4
            clear haf hfb
            rw [HLIT.out]
            go_simp
            exact hK.out _ _ (RS.next (wv := wv) (vs := vs) 16 (x := .bool false) (by rw [HLIT.out]; simp only [upv, e3, e15, Nat.reduceBEq, cond_true, cond_false]) (by rw [HG.out]; exact j4.out) hM.out (by rw [HG.out]; exact fun _ _ h => h) (by rw [HG.out]; exact E16.out.symm))
          · intro bf ac wv hfb haf hJ K' hK
            obtain ⟨vs, rfl, hM, j4⟩ := hJ
            replace hK := Lib.hid hK
            replace hM := Lib.hid hM
            rw [HG.out] at j4
            simp [Region.binds] at haf
            have e16 := ((j4 16 (by simp [haf]))).trans E16.out
            replace j4 := Lib.hid j4
            clear haf hfb
            rw [HLIT.out]
            go_simp
            exact hK.out _ _ (RS.next (wv := wv) (vs := vs) 17 (x := .slice (some ⟨b1, o1, none⟩) L.length sc) (by rw [HLIT.out]; simp only [upv, e16, Nat.reduceBEq, cond_true, cond_false]) (by rw [HG.out]; exact j4.out) hM.out (by rw [HG.out]; exact fun _ _ h => h) (by rw [HG.out]; exact E17.out.symm))
          · intro bf ac wv hfb haf hJ K' hK
            obtain ⟨vs, rfl, hM, j4⟩ := hJ
            replace hK := Lib.hid hK
            replace hM := Lib.hid hM
            rw [HG.out] at j4
            simp [Region.binds] at haf
            have e16 := ((j4 16 (by simp [haf]))).trans E16.out
            replace j4 := Lib.hid j4
            clear haf hfb
            rw [HLIT.out]
            go_simp
            exact hK.out _ _ (RS.next (wv := wv) (vs := vs) 18 (x := .int .i64 (k : Int)) (by rw [HLIT.out]; simp only [upv, e16, Nat.reduceBEq, cond_true, cond_false]) (by rw [HG.out]; exact j4.out) hM.out (by rw [HG.out]; exact fun _ _ h => h) (by rw [HG.out]; exact E18.out.symm))
          · intro bf ac wv hfb haf hJ K' hK
            obtain ⟨vs, rfl, hM, j4⟩ := hJ
            replace hK := Lib.hid hK
            replace hM := Lib.hid hM
            rw [HG.out] at j4
            simp [Region.binds] at haf
            have e16 := ((j4 16 (by simp [haf]))).trans E16.out
            have e17 := ((j4 17 (by simp [haf]))).trans E17.out
            have e18 := ((j4 18 (by simp [haf]))).trans E18.out
            replace j4 := Lib.hid j4
            clear haf hfb
            have hij := HT1.out
            rw [HLIT.out]
            go_simp
            exact hK.out _ _ (RS.next (wv := wv) (vs := vs) 19 (x := .pointer (some ⟨b1, o1 + k * 4, none⟩)) (by rw [HLIT.out]; simp only [upv, e16, e17, e18, Nat.reduceBEq, cond_true, cond_false]) (by rw [HG.out]; exact j4.out) hM.out (by rw [HG.out]; exact fun _ _ h => h) (by rw [HG.out]; exact E19.out.symm))
          · intro bf ac wv hfb haf hJ K' hK
            obtain ⟨vs, rfl, hM, j4⟩ := hJ
            replace hK := Lib.hid hK
            replace hM := Lib.hid hM
            rw [HG.out] at j4
            simp [Region.binds] at haf
            have e16 := ((j4 16 (by simp [haf]))).trans E16.out
            have e19 := ((j4 19 (by simp [haf]))).trans E19.out
            replace j4 := Lib.hid j4
            clear haf hfb
            rw [HLIT.out]
            go_simp
            exact hK.out _ _ (RS.next (wv := wv) (vs := vs) 20 (x := .pointer (some ⟨b1, o1 + k * 4 + 1, none⟩)) (by rw [HLIT.out]; simp only [upv, e16, e19, Nat.reduceBEq, cond_true, cond_false]) (by rw [HG.out]; exact j4.out) hM.out (by rw [HG.out]; exact fun _ _ h => h) (by rw [HG.out]; exact E20.out.symm))
          · intro bf ac wv hfb haf hJ K' hK
            obtain ⟨vs, rfl, hM, j4⟩ := hJ
            replace hK := Lib.hid hK
            replace hM := Lib.hid hM
            rw [HG.out] at j4
            simp [Region.binds] at haf
            have e16 := ((j4 16 (by simp [haf]))).trans E16.out
            have e20 := ((j4 20 (by simp [haf]))).trans E20.out
            replace j4 := Lib.hid j4
            clear haf hfb
            have yA := keep1 hM.out HK1.out
            have yAz := World.block_lt_of_cell? _ _ yA
            rw [HLIT.out]
            go_simp
            exact hK.out _ _ (RS.next (wv := wv) (vs := vs) 21 (x := .int .i64 kb) (by rw [HLIT.out]; simp only [upv, e16, e20, Nat.reduceBEq, cond_true, cond_false]) (by rw [HG.out]; exact j4.out) hM.out (by rw [HG.out]; exact fun _ _ h => h) (by rw [HG.out]; exact E21.out.symm))
          · intro bf ac wv hfb haf hJ K' hK
            obtain ⟨vs, rfl, hM, j4⟩ := hJ
            replace hK := Lib.hid hK
            replace hM := Lib.hid hM
            rw [HG.out] at j4
            simp [Region.binds] at haf
            have e16 := ((j4 16 (by simp [haf]))).trans E16.out
            replace j4 := Lib.hid j4
            clear haf hfb
            rw [HLIT.out]
            go_simp
            exact hK.out _ _ (RS.next (wv := wv) (vs := vs) 22 (x := .slice (some ⟨b1, o1, none⟩) L.length sc) (by rw [HLIT.out]; simp only [upv, e16, Nat.reduceBEq, cond_true, cond_false]) (by rw [HG.out]; exact j4.out) hM.out (by rw [HG.out]; exact fun _ _ h => h) (by rw [HG.out]; exact E22.out.symm))
          · intro bf ac wv hfb haf hJ K' hK
            obtain ⟨vs, rfl, hM, j4⟩ := hJ
            replace hK := Lib.hid hK
            replace hM := Lib.hid hM
            rw [HG.out] at j4
            simp [Region.binds] at haf
            have e16 := ((j4 16 (by simp [haf]))).trans E16.out
            replace j4 := Lib.hid j4
            clear haf hfb
            rw [HLIT.out]
            go_simp
            exact hK.out _ _ (RS.next (wv := wv) (vs := vs) 23 (x := .int .i64 (i : Int)) (by rw [HLIT.out]; simp only [upv, e16, Nat.reduceBEq, cond_true, cond_false]) (by rw [HG.out]; exact j4.out) hM.out (by rw [HG.out]; exact fun _ _ h => h) (by rw [HG.out]; exact E23.out.symm))
          · intro bf ac wv hfb haf hJ K' hK
            obtain ⟨vs, rfl, hM, j4⟩ := hJ
            replace hK := Lib.hid hK
            replace hM := Lib.hid hM
            rw [HG.out] at j4
            simp [Region.binds] at haf
            have e16 := ((j4 16 (by simp [haf]))).trans E16.out
            have e22 := ((j4 22 (by simp [haf]))).trans E22.out
            have e23 := ((j4 23 (by simp [haf]))).trans E23.out
            replace j4 := Lib.hid j4
            clear haf hfb
            have hij := HIJ.out
            rw [HLIT.out]
            go_simp
            exact hK.out _ _ (RS.next (wv := wv) (vs := vs) 24 (x := .pointer (some ⟨b1, o1 + i * 4, none⟩)) (by rw [HLIT.out]; simp only [upv, e16, e22, e23, Nat.reduceBEq, cond_true, cond_false]) (by rw [HG.out]; exact j4.out) hM.out (by rw [HG.out]; exact fun _ _ h => h) (by rw [HG.out]; exact E24.out.symm))
          · intro bf ac wv hfb haf hJ K' hK
            obtain ⟨vs, rfl, hM, j4⟩ := hJ
            replace hK := Lib.hid hK
            replace hM := Lib.hid hM
            rw [HG.out] at j4
            simp [Region.binds] at haf
            have e16 := ((j4 16 (by simp [haf]))).trans E16.out
            have e24 := ((j4 24 (by simp [haf]))).trans E24.out
            replace j4 := Lib.hid j4
            clear haf hfb
            rw [HLIT.out]
            go_simp
            exact hK.out _ _ (RS.next (wv := wv) (vs := vs) 25 (x := .pointer (some ⟨b1, o1 + i * 4 + 1, none⟩)) (by rw [HLIT.out]; simp only [upv, e16, e24, Nat.reduceBEq, cond_true, cond_false]) (by rw [HG.out]; exact j4.out) hM.out (by rw [HG.out]; exact fun _ _ h => h) (by rw [HG.out]; exact E25.out.symm))
          · intro bf ac wv hfb haf hJ K' hK
            obtain ⟨vs, rfl, hM, j4⟩ := hJ
            replace hK := Lib.hid hK
            replace hM := Lib.hid hM
            rw [HG.out] at j4
            simp [Region.binds] at haf
            have e16 := ((j4 16 (by simp [haf]))).trans E16.out
            have e25 := ((j4 25 (by simp [haf]))).trans E25.out
            replace j4 := Lib.hid j4
            clear haf hfb
            have yA := keep1 hM.out HY1r.out
            have yAz := World.block_lt_of_cell? _ _ yA
            rw [HLIT.out]
            go_simp
            exact hK.out _ _ (RS.next (wv := wv) (vs := vs) 26 (x := .int .i64 Bi) (by rw [HLIT.out]; simp only [upv, e16, e25, Nat.reduceBEq, cond_true, cond_false]) (by rw [HG.out]; exact j4.out) hM.out (by rw [HG.out]; exact fun _ _ h => h) (by rw [HG.out]; exact E26.out.symm))
          · intro bf ac wv hfb haf hJ K' hK
            obtain ⟨vs, rfl, hM, j4⟩ := hJ
            replace hK := Lib.hid hK
            replace hM := Lib.hid hM
            rw [HG.out] at j4
            simp [Region.binds] at haf
            have e16 := ((j4 16 (by simp [haf]))).trans E16.out
            have e21 := ((j4 21 (by simp [haf]))).trans E21.out
            have e26 := ((j4 26 (by simp [haf]))).trans E26.out
            replace j4 := Lib.hid j4
            clear haf hfb
            rw [HLIT.out]
            go_simp
            exact hK.out _ _ (RS.next (wv := wv) (vs := vs) 27 (x := .bool false) (by rw [HLIT.out]; simp only [upv, e16, e21, e26, Nat.reduceBEq, cond_true, cond_false]) (by rw [HG.out]; exact j4.out) hM.out (by rw [HG.out]; exact fun _ _ h => h) (by rw [HG.out]; exact E27.out.symm))
          · intro bf ac wv hfb haf hJ K' hK
            obtain ⟨vs, rfl, hM, j4⟩ := hJ
            replace hK := Lib.hid hK
            replace hM := Lib.hid hM
            rw [HG.out] at j4
            simp [Region.binds] at haf
            have e3 := ((j4 3 (by simp [haf]))).trans E3.out
            have e16 := ((j4 16 (by simp [haf]))).trans E16.out
            have e27 := ((j4 27 (by simp [haf]))).trans E27.out
            replace j4 := Lib.hid j4
            clear haf hfb
            rw [HLIT.out]
            go_simp
            exact hK.out _ _ (RS.next (wv := wv) (vs := vs) 28 (x := .bool false) (by rw [HLIT.out]; simp only [upv, e3, e16, e27, Nat.reduceBEq, cond_true, cond_false]) (by rw [HG.out]; exact j4.out) hM.out (by rw [HG.out]; exact fun _ _ h => h) (by rw [HG.out]; exact E28.out.symm))
          · intro bf ac wv hfb haf hJ K' hK
            obtain ⟨vs, rfl, hM, j4⟩ := hJ
            replace hK := Lib.hid hK
            replace hM := Lib.hid hM
            rw [HG.out] at j4
            simp [Region.binds] at haf
            have e3 := ((j4 3 (by simp [haf]))).trans E3.out
            have e28 := ((j4 28 (by simp [haf]))).trans E28.out
            replace j4 := Lib.hid j4
            clear haf hfb
            rw [HLIT.out]
            go_simp
            exact hK.out _ _ (RS.next (wv := wv) (vs := vs) 29 (x := .bool false) (by rw [HLIT.out]; simp only [upv, e3, e28, Nat.reduceBEq, cond_true, cond_false]) (by rw [HG.out]; exact j4.out) hM.out (by rw [HG.out]; exact fun _ _ h => h) (by rw [HG.out]; exact E29.out.symm))
        · intro bf ac wv hall hJ
          obtain ⟨vs, rfl, hM, j4⟩ := hJ
          rw [HG.out] at j4
          have hlast := ((j4 29 (hall 29 (by decide)))).trans E29.out
          clear j4 hall
          rw [HLIT.out]
          dsimp only
          rw [hlast]
          clear hlast
          go_wp2
          go_meet
          exact ⟨by rw [HBV.out], hM⟩
      case rest =>
        obtain ⟨rfl, b⟩ := hcut
        cases hbv : blB L D i k
        · have HNY := Lib.hid (HNX.out hbv)
          have HWW := Lib.hid (keep2 b HW.out)
          have hlt := HLT.out
          have hm9 := H9.out
          clear b
          go_wp2
          go_roundw
          case rel => exact ⟨k + 1, hlt, by go_num, HNY, HWW⟩
          case measure => simp [intOf]; omega
        have HX2 := Lib.hid (HEB.out hbv)
        exact absurd (HX2.out.symm.trans HX.out) (by simp)
end Go.Proofs.Ytolinnmhdclgpaa
