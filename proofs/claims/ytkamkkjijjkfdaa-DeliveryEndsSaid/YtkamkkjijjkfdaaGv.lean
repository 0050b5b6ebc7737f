/- Delivery: the law 'DeliveryEnds'. -/
import Derived.Test.YtkamkkjijjkfdaaGr
import Derived.StillTailTactics
import Derived.BigQuiet
namespace Go.Proofs.Ytkamkkjijjkfdaa
open Go.RowKit

/-- An append of orders to a new empty list, as an equation. -/
theorem app_new_od (w : World) (v : Value) (l : List Od) (h : OdsAt w v l) (h9 : l.length ≤ 100000) :
    ∃ (a : Option Addr) (c : Nat) (w' : World), (Builtin.append_ #[22, 22] 22 #[.slice (some ⟨w.heap.size, 0, none⟩) 0 0, v]).run Try.prog (w.alloc (.cells #[] 32)) = .ok (.slice a l.length c) w' ∧ w'.ownsRow w.heap.size 32 4 (.slice a l.length c) l.length (ocs l) ∧ Below w.heap.size w w' := by
  have hown : (w.alloc (.cells #[] 32)).ownsRow w.heap.size 32 4 (.slice (some ⟨w.heap.size, 0, none⟩) 0 0) 0 [] :=
    ⟨rfl, .inr ⟨w.heap.size, 0, _, rfl, Nat.le_refl _, heap_alloc_new _ _, by omega, by unfold maxLen; omega, rfl, rfl⟩⟩
  obtain ⟨i0, hi, hz0, hz1, hz2⟩ := info_parts od_info
  have h1 := h.step (al w (.cells #[] 32))
  have h2 := h1
  obtain ⟨a, cap, rfl, -, hm, hc⟩ := h2
  cases a with
  | none =>
    have hl : l = [] := by
      cases l with
      | nil => rfl
      | cons x l => obtain ⟨b, off, e, -⟩ := hc (by simp); cases e
    subst hl
    refine ⟨some ⟨w.heap.size, 0, none⟩, 0, w.alloc (.cells #[] 32), ?_, hown, al _ _⟩
    simp [Builtin.append_, run_underlying Try.underlying22, sizeOf, typeInfo, hi, Builtin.lenOf, Builtin.firstCells, storeCells]
  | some ad =>
    have hlen : (ocs l).length = l.length * 4 := by
      have : ∀ l : List Od, (ocs l).length = l.length * 4 := by
        intro l
        induction l with
        | nil => rfl
        | cons x l ih => show (x.cells ++ ocs l).length = _; rw [List.length_append, ih]; simp [Od.cells]; omega
      exact this l
    obtain ⟨v', w', q1, q2, q3, -, -⟩ := run_append_own_at (P := Try.prog) (w.alloc (.cells #[] 32)) w.heap.size 22 22 32 i0 _ 4 32 Try.underlying22 hi hz0 hz1 hz2 rfl (by decide) _ 0 [] hown ad l.length cap (ocs l) hlen (od_cells h1 ad rfl) (ocs_one' l) (by unfold maxLen; omega) (by omega) (by simp)
    have q2' : w'.ownsRow w.heap.size 32 4 v' l.length (ocs l) := by simpa using q2
    obtain ⟨a', c', rfl⟩ := row_slice q2'
    exact ⟨a', c', w', q1, q2', (al w (.cells #[] 32)).grown q3 (by simp) (fun k e => by cases e; exact Nat.le_refl _)⟩
theorem wpList_app_g {ops : Array Oper} {rest : List Oper} {o : Oper} {a : Act} {w w' : World} {Q : Exit → Act → World → Prop} (s x : Operand) (t : TypeId)
    (ho : o.op = .call { callee := .builtin .append, args := #[s, x], argTypes := #[t, t] }) (hw : Region.wanted o (yielded ops a.tmps) = true) (v sl v' : Value) (hs : a.eval s = v) (hx : a.eval x = sl)
    (hr : (Builtin.append_ #[t, t] o.type #[v, sl]).run Try.prog w = .ok v' w') (h : wpList Try.prog ops Q rest (a.put o.dst v') w') : wpList Try.prog ops Q (o :: rest) a w := by
  refine wpList_step fun K hK => ?_
  rw [if_pos hw]
  unfold Oper.wp execOp
  simp only [ho, resolve, invoke, builtin, Sem.run_bind, Sem.run_pure, Result.andThen_ok, List.map_toArray, List.map_cons, List.map_nil, hs, hx, hr]
  exact hK _ _ h
/-- What holds while the pending orders come. -/
def EndR (base n Wp K : Nat) (A P0 : List Od) (pr : Option Addr) (prc k : Nat) (w : World) : Prop :=
  ∃ (pa ta va aa da : Option Addr) (pc tc vc ac dc : Nat) (nx : Int) (P : List Od) (t : Int) (L : List Bool) (f : Int) (V : List Int) (dn : Int) (D : List Od),
    WdA base n pa ta va aa da pc tc vc ac dc nx P t L f V dn A D w ∧ Inv true (K + k) nx P t L f V dn A D ∧ (∀ y ∈ P, y ∈ P0) ∧ (∀ j, j < k → ∀ y ∈ P, y.a ≠ (P0.getD j zO).a) ∧
    w.ownsRow Wp 32 4 (.slice pr P0.length prc) P0.length (ocs P0) ∧ nb pr n ∧ nb2 pr da
theorem end_step {base n Wp K : Nat} {A P0 : List Od} {pr : Option Addr} {prc k : Nat} {w : World} (h : EndR base n Wp K A P0 pr prc k w) (hA : ∀ y ∈ P0, ∃ i : Nat, A[i]? = some y) (hK : K + k ≤ 1000) {x : Od} (hx : P0[k]? = some x) :
    Calls Try.prog 22 #[.pointer (some ⟨n, 0, none⟩), .agg #[.int .i64 x.a, .int .i64 x.b, .int .i64 x.c, .int .i64 x.d], .bool true] w fun e w' => e = .returned (.bool true) ∧ EndR base n Wp K A P0 pr prc (k + 1) w' ∧ Below base w w' := by
  obtain ⟨pa, ta, va, aa, da, pc, tc, vc, ac, dc, nx, P, t, L, f, V, dn, D, hw, hi, h1, h2, h3, h4, h5⟩ := h
  obtain ⟨j, hj⟩ := hA x (List.mem_of_getElem? hx)
  refine (arrive_inv hw hi hK hj true).mono ?_
  rintro e w' ⟨rfl, ⟨nx', P', t', L', f', V', dn', D', ⟨pa', ta', va', da', pc', tc', vc', ac', dc', hw', hd⟩, hi', q1, q2⟩, hfb⟩
  have e0 : P0.getD k zO = x := by rw [List.getD_eq_getElem?_getD, hx]; rfl
  refine ⟨rfl, ⟨_, _, _, _, _, _, _, _, _, _, _, _, _, _, _, _, _, _, hw', hi', fun y hy => h1 y (q1 y hy), fun i hik y hy => ?_, ?_, h4, ?_⟩, hfb.1⟩
  · by_cases e : i = k
    · rw [e, e0]; exact q2 rfl rfl y hy
    · exact h2 i (by omega) y (q1 y hy)
  · refine ⟨h3.1, ?_⟩
    rcases h3.2 with q | ⟨g, cap, cur, e, r1, r2, r3⟩
    · exact .inl q
    · simp only [Value.slice.injEq] at e
      have hg : g < w.heap.size := (Array.getElem?_eq_some_iff.1 r2).1
      exact .inr ⟨g, cap, cur, by rw [e.1, e.2.2], r1, (hfb.2 g hg (h4 g 0 e.1) (fun g' o' q => (h5 g 0 g' o' e.1 q).symm)).trans r2, r3⟩
  · intro g o g' o' e e'
    have hg := row_ltN h3 (Nat.le_refl _) g o e
    exact (hd g hg (fun g2 o2 q => (h5 g o g2 o2 e q).symm) g' o' e').symm
/-- All pending orders have come. -/
theorem end_none {base n Wp K : Nat} {A P0 : List Od} {pr : Option Addr} {prc : Nat} {w : World} (h : EndR base n Wp K A P0 pr prc P0.length w) :
    ∃ (pa ta va aa da : Option Addr) (pc tc vc ac dc : Nat) (nx : Int) (t : Int) (L : List Bool) (f : Int) (V : List Int) (D : List Od),
      WdA base n pa ta va aa da pc tc vc ac dc nx [] t L f V (A.length : Int) A D w ∧ (∀ x ∈ A, key x.a D = true) ∧ D.length = A.length ∧ (∀ (i : Nat) (x : Od), A[i]? = some x → x.a = (i : Int)) := by
  obtain ⟨pa, ta, va, aa, da, pc, tc, vc, ac, dc, nx, P, t, L, f, V, dn, D, hw, hi, h1, h2, -⟩ := h
  have hP : P = [] := by
    cases P with
    | nil => rfl
    | cons y P =>
      exfalso
      obtain ⟨j, hj, e⟩ := get_mem (h1 y (by simp))
      exact h2 j hj y (by simp) (by rw [e])
  subst hP
  have hall : ∀ x ∈ A, key x.a D = true := fun x hx => by
    rcases hi.pd x hx with q | q
    · exact q
    · cases q
  have hl : D.length = A.length := by
    rw [hi.dc, List.countP_eq_length.2, List.length_range]
    intro i hir
    have hil := List.mem_range.1 hir
    have hg : A[i]? = some A[i] := List.getElem?_eq_getElem hil
    have := hall _ (List.getElem_mem hil)
    rwa [(hi.ai i _ hg).1] at this
  have hdn := hi.dl
  rw [hl] at hdn
  subst hdn
  exact ⟨_, _, _, _, _, _, _, _, _, _, _, _, _, _, _, _, hw, hall, hl, fun i x hx => (hi.ai i x hx).1⟩
set_option maxRecDepth 100000 in
set_option maxHeartbeats 8000000 in
theorem ends_any (v : Value) (l : List Ac) (w : World) (h : AcsAt w v l) : Calls Try.prog 5 #[v] w fun e w' => e = .returned (.bool true) ∧ Below w.heap.size w w' := by
  have HL := Lib.hid h
  obtain ⟨sa, sc, rfl, hm, -, -⟩ := h
  unfold maxLen at hm
  by_cases hl : 200 < l.length
  · have g1 : decide ((l.length : Int) > 200) = true := by simp; omega
    have g2 : decide (200 < (l.length : Int)) = true := by simp; omega
    have g3 : decide (200 < l.length) = true := decide_eq_true hl
    go_enter Try.func5, Try.ntmps5
    go_wp2_with fail
    refine (head_any _).mono ?_
    rintro e u ⟨rfl, b⟩
    have HB := Lib.hid b
    clear b
    go_wp2
    go_ret
    exact ⟨rfl, HB.out⟩
  have g1 : decide ((l.length : Int) > 200) = false := by simp; omega
  have g2 : decide (200 < (l.length : Int)) = false := by simp; omega
  have g3 : decide (200 < l.length) = false := decide_eq_false hl
  have HLN := Lib.hid (show l.length ≤ 200 by omega)
  clear hl
  go_enter Try.func5, Try.ntmps5
  go_wp2_with fail
  refine (head_any _).mono ?_
  rintro e u ⟨rfl, b⟩
  have HB := Lib.hid b
  have HLu := Lib.hid (HL.out.step b)
  clear b
  go_wp2_with fail
  refine (play_any _ l true _ HLu.out HLN.out).mono ?_
  rintro e WA ⟨n, rfl, hS, b2⟩
  have HB2 := Lib.hid (keep2 b2 HB.out)
  have HUS := Lib.hid HB.out.size
  obtain ⟨nx, P, t, L, f, V, dn, A, D, ⟨pa, ta, va, aa, da, pc, tc, vc, ac, dc, hw⟩, hi⟩ := hS
  have HW := Lib.hid hw
  have HI := Lib.hid hi
  clear b2 HB HLu g1 g2 g3 hw hi
  have hpl : P.length ≤ 100 := by
    have h1 := HI.out.sn
    have h2 := HI.out.an
    have h3 := HI.out.ak
    have h6 := HLN.out
    cases hP : P.length with
    | zero => omega
    | succ m =>
      have h4 := (h1.2 m (by omega)).2.2
      have h5 : ∀ k, k < P.length → (k : Int) + (nx - 16) ≤ (P.getD k zO).a := by
        intro k
        induction k with
        | zero => intro hk; have := snp_low h1 0 hk; omega
        | succ k ih => intro hk; have h6 := ih (by omega); have h7 := sn_next h1 hk; omega
      have h6 := h5 m (by omega)
      omega
  have HPL := Lib.hid hpl
  obtain ⟨pr, prc, W1, hrun, hrow, b3⟩ := app_new_od WA (.slice pa P.length pc) P HW.out.pp (by omega)
  have HER := Lib.hid (show EndR u.heap.size n WA.heap.size l.length A P pr prc 0 W1 from
    ⟨_, _, _, _, _, _, _, _, _, _, _, _, _, _, _, _, _, _, HW.out.step b3, HI.out, fun y hy => hy, fun j hj => absurd hj (by omega), hrow, fun g o e => (by have h1 := row_adrD hrow g o e; have h2 := HW.out.cs.2.2; omega), fun g o g' o' e e' => (by have h1 := row_adrD hrow g o e; have h2 := row_ltN HW.out.dl (Nat.le_refl _) g' o' e'; omega)⟩)
  have HUB := Lib.hid (show w.heap.size ≤ u.heap.size from HUS.out)
  have HB3 := Lib.hid (keep2 b3 HB2.out)
  have x1 : (WA.alloc (.cells #[] 32)).cell? ⟨n, 1, none⟩ = some (.slice pa P.length pc) := (HW.out.step (al WA (.cells #[] 32))).cs.c 1 rfl
  have xz : n < (WA.alloc (.cells #[] 32)).heap.size := (HW.out.step (al WA (.cells #[] 32))).cs.2.2
  clear b3 hrow hpl
  go_wp2_with (at_builtin; refine wpList_app_g (.tmp 21) (.tmp 26) 22 rfl (by simp [Region.wanted]) _ _ _ rfl rfl hrun ?_)
  clear hrun x1 xz
  skip
  have HM := Lib.hid (show P.length ≤ maxLen by have := HPL.out; unfold maxLen; omega)
  have hm2 : P.length ≤ 100 := HPL.out
  go_loopw [7] (fun iv wr => ∃ k : Nat, k ≤ P.length ∧ iv = .int .i64 k ∧ Hid (EndR u.heap.size n WA.heap.size l.length A P pr prc k wr) ∧ Hid (Below w.heap.size w wr)) (fun iv _ => P.length - (intOf iv).toNat)
  case atStart => exact ⟨0, by omega, rfl, HER, HB3⟩
  case round =>
    obtain ⟨k, hk, rfl, HE, HR⟩ := hrel
    by_cases hlt : k < P.length
    · have HEo := HE.out
      obtain ⟨_, _, _, _, _, _, _, _, _, _, _, _, _, _, _, _, _, _, -, -, -, -, hrow, -, -⟩ := HEo
      obtain ⟨xa, xc, hv1, -, -, hx⟩ := ods_of_row rfl hrow
      obtain ⟨rfl, rfl⟩ : pr = xa ∧ prc = xc := by simpa using hv1
      obtain ⟨b1, o1, rfl, hx1⟩ := hx (by intro e; rw [e] at hlt; simp at hlt)
      obtain ⟨x, hkx⟩ : ∃ x, P[k]? = some x := ⟨_, List.getElem?_eq_getElem hlt⟩
      obtain ⟨y0, y1, y2, y3⟩ := hx1 k x hkx
      have HSI := Lib.hid (end_step HE.out HI.out.pa (by have := HLN.out; have := HPL.out; omega) hkx)
      have yz : b1 < wr.heap.size := World.block_lt_of_cell? _ _ y0
      have t1 : (k : Int) < (P.length : Int) := by omega
      obtain ⟨xa, xb, xc, xd⟩ := x
      clear hrow hv1 hx hx1 hkx HE
      go_wp2_with fail
      refine HSI.out.mono ?_
      rintro e w2 ⟨rfl, hE, b2⟩
      have HE2 := Lib.hid hE
      have HR2 := Lib.hid (HR.out.trans (b2.mono HUB.out))
      clear hE b2 HSI y0 y1 y2 y3 yz
      go_wp2
      go_roundw
      case rel => exact ⟨k + 1, hlt, by go_num, HE2, HR2⟩
      case measure => simp [intOf]; omega
    · obtain rfl : k = P.length := by omega
      obtain ⟨pa9, ta9, va9, aa9, da9, pc9, tc9, vc9, ac9, dc9, nx9, t9, L9, f9, V9, D9, hw9, hall, hdl, hai⟩ := end_none HE.out
      have HW9 := Lib.hid hw9
      have HALL := Lib.hid hall
      have HAI := Lib.hid hai
      have HDL := Lib.hid hdl
      have HAL := Lib.hid (show A.length ≤ 1000 by have h1 := HI.out.ak; have h2 := HLN.out; omega)
      clear hw9 hall hdl hai HE
      go_wp2_with fail
      obtain ⟨WB, hWB⟩ : ∃ z, z = wr := ⟨_, rfl⟩
      subst hWB
      have hm3 : A.length ≤ 1000 := HAL.out
      go_loopw [8] (fun iv wr => ∃ k : Nat, k ≤ A.length ∧ iv = .int .i64 k ∧ Hid (Below WB.heap.size WB wr)) (fun iv _ => A.length - (intOf iv).toNat)
      case atStart => exact ⟨0, by omega, rfl, Lib.hid (Below.refl _ _)⟩
      case round =>
        obtain ⟨k, hk, rfl, HS⟩ := hrel
        have hWr := HW9.out.step HS.out
        have HWr := Lib.hid hWr
        have x7 := hWr.cs.c 7 rfl
        have x8 := hWr.cs.c 8 rfl
        have xz := hWr.cs.2.2
        by_cases hlt : k < A.length
        · obtain ⟨xa, xc, hv1, -, -, hx⟩ := ods_of_row rfl hWr.al
          obtain ⟨rfl, rfl⟩ : aa9 = xa ∧ ac9 = xc := by simpa using hv1
          obtain ⟨b1, o1, rfl, hx1⟩ := hx (by intro e; rw [e] at hlt; simp at hlt)
          obtain ⟨x, hkx⟩ : ∃ x, A[k]? = some x := ⟨_, List.getElem?_eq_getElem hlt⟩
          obtain ⟨y0, -, -, -⟩ := hx1 k x hkx
          have HK := Lib.hid (show (D9.any fun y => y.a == x.a) = true from HALL.out x (List.mem_of_getElem? hkx))
          have yz : b1 < wr.heap.size := World.block_lt_of_cell? _ _ y0
          have t1 : (k : Int) < (A.length : Int) := by omega
          obtain ⟨xa, xb, xc, xd⟩ := x
          clear hWr hv1 hx hx1 hkx
          go_upto_region 16 with fail
          go_still_tail 12, (by kernel_rfl)
          change wpList _ _ _ _ _ wr.drew
          obtain ⟨w2, hw2⟩ : ∃ z, wr.drew = z := ⟨_, rfl⟩
          have b0 : Below wr.heap.size wr w2 := by rw [← hw2]; exact below_drew _ _
          rw [hw2]
          clear hw2
          have HS2 := Lib.hid (keep2 b0 HS.out)
          have HD2 := Lib.hid (ods_of_row rfl (HWr.out.step b0).dl)
          clear b0 y0 yz x7 x8 xz HS HWr
          go_wp2_with fail
          refine (has_any (.slice da9 D9.length dc9) D9 xa _ HD2.out).mono ?_
          rintro e w3 ⟨rfl, b3⟩
          have HS3 := Lib.hid (keep2 b3 HS2.out)
          rw [HK.out]
          clear b3
          go_wp2
          go_roundw
          case rel => exact ⟨k + 1, hlt, by go_num, HS3⟩
          case measure => simp [intOf]; omega
        · obtain rfl : k = A.length := by omega
          have x1 := hWr.cs.c 1 rfl
          have x6 := hWr.cs.c 6 rfl
          rw [HDL.out] at x8
          simp only [List.length_nil] at x1
          clear hWr
          go_upto_region 18 with fail
          go_quiet (fail)
          go_wp2
          go_ret
          exact ⟨rfl, (HR.out.trans (HS.out.mono HR.out.size)).trans (below_drewN' _ _ _)⟩
end Go.Proofs.Ytkamkkjijjkfdaa
