/- Delivery, the reference: 'Fresh'. -/
import Derived.Test.YtkamkkjijjkfdaaDm
namespace Go.Proofs.Ytkamkkjijjkfdaa
open Go.RowKit

set_option maxRecDepth 100000 in
set_option maxHeartbeats 8000000 in
theorem rfresh1_any (w : World) : Calls Try.prog 43 #[] w fun e w' => ∃ s, e = .returned (.agg #[.int .i64 (-1), s]) ∧ w'.ownsRow w.heap.size 4 1 s 16 ((List.replicate 16 false).map Value.bool) ∧ Below w.heap.size w w' := by
  have hmk : ∀ w, (Instr.makeSlice 25 (.int .i64 16) (.int .i64 16)).run Try.prog w = .ok (.slice (some ⟨w.heap.size, 0, none⟩) 16 16) (w.alloc (.cells ((List.replicate 16 false).map Value.bool).toArray 4)) := fun _ => by kernel_rfl
  have HR := Lib.hid (show ((w.alloc (.cells #[.int .i64 (-1), .slice (some ⟨w.heap.size + 1, 0, none⟩) 16 16] 27)).alloc (.cells #[.bool false, .bool false, .bool false, .bool false, .bool false, .bool false, .bool false, .bool false, .bool false, .bool false, .bool false, .bool false, .bool false, .bool false, .bool false, .bool false] 4)).ownsRow w.heap.size 4 1 (.slice (some ⟨w.heap.size + 1, 0, none⟩) 16 16) 16 ((List.replicate 16 false).map Value.bool) from
    ⟨rfl, .inr ⟨w.heap.size + 1, 16, _, rfl, Nat.le_succ _, (by have h := heap_alloc_new (w.alloc (.cells #[.int .i64 (-1), .slice (some ⟨w.heap.size + 1, 0, none⟩) 16 16] 27)) (.cells #[.bool false, .bool false, .bool false, .bool false, .bool false, .bool false, .bool false, .bool false, .bool false, .bool false, .bool false, .bool false, .bool false, .bool false, .bool false, .bool false] 4); simpa using h), by omega, by unfold maxLen; omega, rfl, rfl⟩⟩)
  have HB := Lib.hid (al2 (w := w) (o1 := (.cells #[.int .i64 (-1), .slice (some ⟨w.heap.size + 1, 0, none⟩) 16 16] 27)) (o2 := (.cells #[.bool false, .bool false, .bool false, .bool false, .bool false, .bool false, .bool false, .bool false, .bool false, .bool false, .bool false, .bool false, .bool false, .bool false, .bool false, .bool false] 4)))
  go_enter Try.func43, Try.ntmps43
  go_wp2
  exact bodyPost_ret (v := .agg #[.int .i64 (-1), .slice (some ⟨w.heap.size + 1, 0, none⟩) 16 16]) (by simp [results, Try.results43, go_sem]) rfl ⟨_, rfl, HR.out, HB.out⟩
set_option maxRecDepth 100000 in
set_option maxHeartbeats 8000000 in
/-- An append of a list to a new empty one, as an equation. -/
theorem app_new (w : World) (v : Value) (l : List Int) (h : IntsAt w v l) (h9 : l.length ≤ 100000) :
    ∃ v' w', (Builtin.append_ #[28, 28] 28 #[.slice (some ⟨w.heap.size, 0, none⟩) 0 0, v]).run Try.prog (w.alloc (.cells #[] 3)) = .ok v' w' ∧ w'.ownsRow w.heap.size 3 1 v' l.length (l.map (Value.int .i64)) ∧ Below w.heap.size w w' := by
  have hown : (w.alloc (.cells #[] 3)).ownsRow w.heap.size 3 1 (.slice (some ⟨w.heap.size, 0, none⟩) 0 0) 0 [] :=
    ⟨rfl, .inr ⟨w.heap.size, 0, _, rfl, Nat.le_refl _, heap_alloc_new _ _, by omega, by unfold maxLen; omega, rfl, rfl⟩⟩
  obtain ⟨i0, hi, hz0, hz1, hz2⟩ := info_parts in_info
  have h1 := h.step (al w (.cells #[] 3))
  have h2 := h1
  obtain ⟨a, cap, rfl, hm, hc⟩ := h2
  cases a with
  | none =>
    have hl : l = [] := by
      cases l with
      | nil => rfl
      | cons x l => obtain ⟨b, off, e, -⟩ := hc (by simp); cases e
    subst hl
    refine ⟨.slice (some ⟨w.heap.size, 0, none⟩) 0 0, w.alloc (.cells #[] 3), ?_, hown, al _ _⟩
    simp [Builtin.append_, run_underlying Try.underlying28, sizeOf, typeInfo, hi, Builtin.lenOf, Builtin.firstCells, storeCells]
  | some ad =>
    obtain ⟨v', w', q1, q2, q3, -, -⟩ := run_append_own_at (P := Try.prog) (w.alloc (.cells #[] 3)) w.heap.size 28 28 3 i0 _ 1 8 Try.underlying28 hi hz0 hz1 hz2 rfl (by decide) _ 0 [] hown ad l.length cap (l.map (Value.int .i64)) (by simp) (in_cells h1 ad rfl) (in_one l) (by unfold maxLen; omega) (by omega) (by simp)
    exact ⟨v', w', q1, by simpa using q2, (al w (.cells #[] 3)).grown q3 (by simp) (fun k e => by cases e; exact Nat.le_refl _)⟩
theorem wpList_app_g {ops : Array Oper} {rest : List Oper} {o : Oper} {a : Act} {w w' : World} {Q : Exit → Act → World → Prop} (s x : Operand) (t : TypeId)
    (ho : o.op = .call { callee := .builtin .append, args := #[s, x], argTypes := #[t, t] }) (hw : Region.wanted o (yielded ops a.tmps) = true) (v sl v' : Value) (hs : a.eval s = v) (hx : a.eval x = sl)
    (hr : (Builtin.append_ #[t, t] o.type #[v, sl]).run Try.prog w = .ok v' w') (h : wpList Try.prog ops Q rest (a.put o.dst v') w') : wpList Try.prog ops Q (o :: rest) a w := by
  refine wpList_step fun K hK => ?_
  rw [if_pos hw]
  unfold Oper.wp execOp
  simp only [ho, resolve, invoke, builtin, Sem.run_bind, Sem.run_pure, Result.andThen_ok, List.map_toArray, List.map_cons, List.map_nil, hs, hx, hr]
  exact hK _ _ h
set_option maxRecDepth 100000 in
set_option maxHeartbeats 8000000 in
theorem rnewrc_ok (v : Value) (l : List Int) (hv : vaB l = true) (w : World) (h : IntsAt w v l) (h9 : l.length ≤ 100000) :
    Calls Try.prog 20 #[v] w fun e w' => ∃ (cc vc : Nat) (aa va : Option Addr), e = .returned (.agg #[.int .i64 (-1), .slice aa 16 cc, .int .i64 0, .slice va l.length vc, .int .i64 0]) ∧ 16 ≤ cc ∧ BosAt w' (.slice aa 16 cc) (List.replicate 16 false) ∧ IntsAt w' (.slice va l.length vc) l ∧ Below w.heap.size w w' := by
  have HR0 := Lib.hid (Cs.new w w.heap.size #[.int .i64 0, .slice none 0 0, .int .i64 0, .slice none 0 0, .int .i64 0] 30 rfl)
  have HB0 := Lib.hid (al w (.cells #[.int .i64 0, .slice none 0 0, .int .i64 0, .slice none 0 0, .int .i64 0] 30))
  have HV0 := Lib.hid (h.step HB0.out)
  have HV := Lib.hid hv
  have H9 := Lib.hid h9
  clear h hv h9
  go_enter Try.func20, Try.ntmps20
  go_wp2_with fail
  refine (rvalues_any v l true HV.out _ HV0.out).mono ?_
  rintro e w1 ⟨rfl, hw1⟩
  have b1 : Below (w.alloc (.cells #[.int .i64 0, .slice none 0 0, .int .i64 0, .slice none 0 0, .int .i64 0] 30)).heap.size (w.alloc (.cells #[.int .i64 0, .slice none 0 0, .int .i64 0, .slice none 0 0, .int .i64 0] 30)) w1 := by rw [← hw1]; exact Below.refl _ _
  clear hw1
  have HR1 := Lib.hid (HR0.out.step b1)
  have HB1 := Lib.hid (keep2 b1 HB0.out)
  have HV1 := Lib.hid (HV0.out.step b1)
  have HR1z := Lib.hid HR1.out.2.2
  clear b1 HR0 HB0 HV0
  go_wp2_with fail
  refine (rfresh1_any _).mono ?_
  rintro e w2 ⟨s, rfl, r2, b2⟩
  obtain ⟨aa, cc, rfl⟩ := row_slice r2
  have HR2 := Lib.hid (HR1.out.step b2)
  have HB2 := Lib.hid (keep2 b2 HB1.out)
  have HV2 := Lib.hid (HV1.out.step b2)
  have HW2 := Lib.hid r2
  have b2s := Lib.hid b2.size
  clear b2 HR1 HB1 HV1 r2
  obtain ⟨v', w3, hrun, r3, b3⟩ := app_new w2 v l HV2.out H9.out
  obtain ⟨va, vc, rfl⟩ := row_slice r3
  have HR3 := Lib.hid (HR2.out.step b3)
  have HB3 := Lib.hid (keep2 b3 HB2.out)
  have HW3 := Lib.hid (row_step HW2.out b3)
  have HV3 := Lib.hid (ints_of_row r3)
  have HA1 := Lib.hid (row_adr HW3.out)
  have HA2 := Lib.hid (row_adr r3)
  have HZ1 := Lib.hid (show w.heap.size < w1.heap.size from HR1z.out)
  have HZ2 := Lib.hid (show w.heap.size < w2.heap.size from Nat.lt_of_lt_of_le HR1z.out b2s.out)
  clear b3 HR2 HB2 HV2 HW2 r3
  have r0 := HR3.out.c 0 rfl
  have r1 := HR3.out.c 1 rfl
  have r2 := HR3.out.c 2 rfl
  have r3 := HR3.out.c 3 rfl
  have r4 := HR3.out.c 4 rfl
  have f0 := HR3.out.f 0 (by simp)
  have f1 := HR3.out.f 1 (by simp)
  have f2 := HR3.out.f 2 (by simp)
  have f3 := HR3.out.f 3 (by simp)
  have f4 := HR3.out.f 4 (by simp)
  have rz := HR3.out.2.2
  go_wp2_with (at_builtin; refine wpList_app_g (.tmp 8) (.tmp 9) 28 rfl (by simp [Region.wanted]) _ _ _ rfl rfl hrun ?_)
  have hg1 : ∀ g o, aa = some ⟨g, o, none⟩ → g ≠ w.heap.size := fun g o e => by have := HA1.out g o e; have := HZ1.out; omega
  have hg2 : ∀ g o, va = some ⟨g, o, none⟩ → g ≠ w.heap.size := fun g o e => by have := HA2.out g o e; have := HZ2.out; omega
  have HBA := Lib.hid (show BosAt w3 (.slice aa 16 cc) (List.replicate 16 false) from bos_of_row (xs := List.replicate 16 false) HW3.out)
  refine (fun (h : ∀ V : World, Cs V w.heap.size #[.int .i64 (-1), .slice aa 16 cc, .int .i64 0, .slice va l.length vc, .int .i64 0] → BosAt V (.slice aa 16 cc) (List.replicate 16 false) → IntsAt V (.slice va l.length vc) l → Below w.heap.size w V → bodyPost Try.prog Try.f20 _ Exit.ret _ V) => h _ (Cs.set (Cs.set (Cs.set (Cs.set (Cs.set (HR3.out) 0 (by simp) (.int .i64 (-1)) (vs' := #[.int .i64 (-1), .slice none 0 0, .int .i64 0, .slice none 0 0, .int .i64 0]) rfl) 1 (by simp) (.slice aa 16 cc) (vs' := #[.int .i64 (-1), .slice aa 16 cc, .int .i64 0, .slice none 0 0, .int .i64 0]) rfl) 2 (by simp) (.int .i64 0) (vs' := #[.int .i64 (-1), .slice aa 16 cc, .int .i64 0, .slice none 0 0, .int .i64 0]) rfl) 3 (by simp) (.slice va l.length vc) (vs' := #[.int .i64 (-1), .slice aa 16 cc, .int .i64 0, .slice va l.length vc, .int .i64 0]) rfl) 4 (by simp) (.int .i64 0) (vs' := #[.int .i64 (-1), .slice aa 16 cc, .int .i64 0, .slice va l.length vc, .int .i64 0]) rfl) (bos_oth (bos_oth (bos_oth (bos_oth (bos_oth (HBA.out) hg1 0 _) hg1 1 _) hg1 2 _) hg1 3 _) hg1 4 _) (ints_oth (ints_oth (ints_oth (ints_oth (ints_oth (HV3.out) hg2 0 _) hg2 1 _) hg2 2 _) hg2 3 _) hg2 4 _) ((((((HB3.out).setCell (p := ⟨w.heap.size, 0, none⟩) (Nat.le_refl _) _).setCell (p := ⟨w.heap.size, 1, none⟩) (Nat.le_refl _) _).setCell (p := ⟨w.heap.size, 2, none⟩) (Nat.le_refl _) _).setCell (p := ⟨w.heap.size, 3, none⟩) (Nat.le_refl _) _).setCell (p := ⟨w.heap.size, 4, none⟩) (Nat.le_refl _) _)) ?_
  intro V hC hB hI hW
  have k0 : V.cell? ⟨w.heap.size, 0, none⟩ = some (.int .i64 (-1)) := hC.c 0 rfl
  have k1 : V.cell? ⟨w.heap.size, 1, none⟩ = some (.slice aa 16 cc) := hC.c 1 rfl
  have k2 : V.cell? ⟨w.heap.size, 2, none⟩ = some (.int .i64 0) := hC.c 2 rfl
  have k3 : V.cell? ⟨w.heap.size, 3, none⟩ = some (.slice va l.length vc) := hC.c 3 rfl
  have k4 : V.cell? ⟨w.heap.size, 4, none⟩ = some (.int .i64 0) := hC.c 4 rfl
  exact bodyPost_ret (v := .agg #[.int .i64 (-1), .slice aa 16 cc, .int .i64 0, .slice va l.length vc, .int .i64 0]) (by simp [results, Try.results20, go_sem, k0, k1, k2, k3, k4]) rfl ⟨cc, vc, aa, va, rfl, row_capD HW3.out, hB, hI, hW⟩
end Go.Proofs.Ytkamkkjijjkfdaa
