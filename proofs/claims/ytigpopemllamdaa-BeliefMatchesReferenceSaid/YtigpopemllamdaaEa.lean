/- Beliefs, the reference: small functions. -/
import Derived.Test.YtigpopemllamdaaCc
import Derived.Test.YtigpopemllamdaaCi
import Derived.Deep.CutRange
import Derived.BigQuiet
namespace Go.Proofs.Ytigpopemllamdaa
open Go.RowKit

set_option maxRecDepth 100000 in
set_option maxHeartbeats 8000000 in
theorem rsurely_any (u s : Value) (zs : List Int) (w : World) (h : IntsAt w u zs) (h9 : zs.length ≤ 100000) :
    Calls Try.prog 18 #[.agg #[u, s]] w fun e w' => e = .returned (.tuple #[.int .i64 (if zs.length = 1 then zs.getD 0 0 else 0), .bool (decide (zs.length = 1))]) ∧ Below w.heap.size w w' := by
  have HB := Lib.hid (al w (.cells #[u, s] 25))
  have HI := Lib.hid (h.step HB.out)
  obtain ⟨a, cap, rfl, -, -⟩ := h
  by_cases h1 : zs.length = 1
  · obtain ⟨y, rfl⟩ := List.length_eq_one_iff.1 h1
    obtain ⟨a2, cap2, e2, -, hc⟩ := HI.out
    obtain ⟨b, off, hb, hx⟩ := hc (by simp)
    obtain rfl : a = a2 := by simp at e2; exact e2.1
    subst hb
    have q := hx 0 y rfl
    rw [Nat.add_zero] at q
    have qz := World.block_lt_of_cell? _ _ q
    clear hc hx e2 h1
    simp only [List.length_singleton] at q qz HB ⊢
    go_enter Try.func18, Try.ntmps18
    go_wp2
    exact bodyPost_ret (v := .tuple #[.int .i64 y, .bool true]) (by simp [results, Try.results18, go_sem]) rfl (by exact ⟨by simp, HB.out⟩)
  · have e1 : ((zs.length : Int) != 1) = true := by simp; omega
    have e2 : ((zs.length : Int) == 1) = false := by simp; omega
    rw [if_neg h1, decide_eq_false h1]
    go_enter Try.func18, Try.ntmps18
    go_wp2
    exact bodyPost_ret (v := .tuple #[.int .i64 0, .bool false]) (by simp [results, Try.results18, go_sem]) rfl (by exact ⟨by simp, HB.out⟩)
set_option maxRecDepth 100000 in
set_option maxHeartbeats 8000000 in
theorem of_any (fa : Option Addr) (fc : Nat) (M : List Od) (w : World) (h : OdsAt w (.slice fa M.length fc) M) (h9 : M.length ≤ maxLen) :
    Calls Try.prog 42 #[.slice fa M.length fc] w fun e w' => ∃ (ua : Option Addr) (uc : Nat), e = .returned (.agg #[.slice ua (rvl M).length uc, .slice fa M.length fc]) ∧ Below w.heap.size w w' ∧ Rb (rvl M) M ua uc fa fc w' := by
  have HL := Lib.hid h
  have HC := Lib.hid (Cs.new w w.heap.size #[.slice none 0 0, .slice none 0 0] 25 rfl)
  have HB := Lib.hid (al w (.cells #[.slice none 0 0, .slice none 0 0] 25))
  have HBX := Lib.hid (BoxN.new w #[.slice none 0 0, .slice none 0 0] 25)
  clear h
  go_enter Try.func42, Try.ntmps42
  go_wp2_with fail
  refine (valuesR_any (.slice fa M.length fc) M _ (HL.out.step HB.out) h9).mono ?_
  rintro e y ⟨u, rfl, hu, b⟩
  obtain ⟨ua, uc, rfl, -, -⟩ : ∃ (a : Option Addr) (c : Nat), u = .slice a (rvl M).length c ∧ True ∧ True := by
    obtain ⟨a, c, e, -, -⟩ := hu
    exact ⟨a, c, e, trivial, trivial⟩
  have HI := Lib.hid hu
  have HC2 := Lib.hid (HC.out.step b)
  have HB2 := Lib.hid (keep2 b HB.out)
  have HL2 := Lib.hid ((HL.out.step HB.out).step b)
  have HX2 := Lib.hid (HBX.out.step b)
  clear hu b HC HB
  have c0 := HC2.out.c 0 rfl
  have c1 := HC2.out.c 1 rfl
  have f0 := HC2.out.f 0 (by simp)
  have f1 := HC2.out.f 1 (by simp)
  have cz := HC2.out.2.2
  go_wp2
  refine (fun (h : ∀ X : World, Cs X w.heap.size #[.slice ua (rvl M).length uc, .slice fa M.length fc] → Chg w.heap.size y X → bodyPost Try.prog Try.f42 _ Exit.ret _ X) => h _ (Cs.set (Cs.set HC2.out 0 (by simp) (.slice ua (rvl M).length uc) rfl) 1 (by simp) (.slice fa M.length fc) (vs' := #[.slice ua (rvl M).length uc, .slice fa M.length fc]) rfl) (((Chg.of (Below.refl _ y)).set 0 _).set 1 _)) ?_
  intro X hC hB
  have k0 : X.cell? ⟨w.heap.size, 0, none⟩ = some (.slice ua (rvl M).length uc) := hC.c 0 rfl
  have k1 : X.cell? ⟨w.heap.size, 1, none⟩ = some (.slice fa M.length fc) := hC.c 1 rfl
  exact bodyPost_ret (v := .agg #[.slice ua (rvl M).length uc, .slice fa M.length fc]) (by simp [results, Try.results42, go_sem, k0, k1]) rfl ⟨ua, uc, rfl, HB2.out.trans (hB.below (Nat.le_refl _) HB2.out.size), Rb.kept ⟨HI.out, HL2.out⟩ hB (sl_of HX2.out)⟩
set_option maxRecDepth 100000 in
set_option maxHeartbeats 8000000 in
theorem rcan_any (s : Value) (va : Option Addr) (vc : Nat) (V : List Int) (x : Int) (w : World) (h : IntsAt w (.slice va V.length vc) V) (h9 : V.length ≤ 1000) :
    Calls Try.prog 21 #[.agg #[.slice va V.length vc, s], .int .i64 x] w fun e w' => e = .returned (.bool (V.contains x)) ∧ Below w.heap.size w w' := by
  have HL := Lib.hid h
  have HC := Lib.hid (Cs.new w w.heap.size #[.slice va V.length vc, s] 25 rfl)
  have HB := Lib.hid (al w (.cells #[.slice va V.length vc, s] 25))
  clear h
  go_enter Try.func21, Try.ntmps21
  go_wp2_with fail
  go_loopw [5] (fun iv wr => ∃ k : Nat, k ≤ V.length ∧ iv = .int .i64 k ∧ Hid (∀ j, j < k → V.getD j 0 ≠ x) ∧ Hid (Cs wr w.heap.size #[.slice va V.length vc, s]) ∧ Hid (Below w.heap.size w wr)) (fun iv _ => V.length - (intOf iv).toNat)
  case atStart => exact ⟨0, by omega, rfl, Lib.hid (fun j h => absurd h (by omega)), HC, HB⟩
  case round =>
    obtain ⟨k, hk, rfl, HN, HC1, HW⟩ := hrel
    have c0 := HC1.out.c 0 rfl
    have cz := HC1.out.2.2
    by_cases hlt : k < V.length
    · obtain ⟨a1, cc1, hv1, -, hcs1⟩ := HL.out.step HW.out
      obtain ⟨rfl, rfl⟩ : va = a1 ∧ vc = cc1 := by simpa using hv1
      obtain ⟨b1, o1, rfl, hx1⟩ := hcs1 (by intro e; rw [e] at hlt; simp at hlt)
      have y0 := hx1 k _ (getD_of hlt)
      have yz : b1 < wr.heap.size := World.block_lt_of_cell? _ _ y0
      have t1 : (k : Int) < (V.length : Int) := by omega
      have HM := Lib.hid (List.mem_of_getElem? (getD_of hlt))
      have HNX := Lib.hid (show V.getD k 0 ≠ x → ∀ j, j < k + 1 → V.getD j 0 ≠ x from fun h0 j h => by
        by_cases e : j = k
        · subst e; exact h0
        · exact HN.out j (by omega))
      clear hcs1 hx1 hv1
      generalize V.getD k 0 = y at *
      by_cases hq : y = x
      · have HF := Lib.hid (show V.contains x = true by rw [List.contains_iff_mem, ← hq]; exact HM.out)
        rw [hq] at y0
        clear hq
        go_wp2
        go_ret
        exact ⟨by rw [HF.out]; rfl, HW.out⟩
      · have HF := Lib.hid (HNX.out hq)
        have e1 : decide (y = x) = false := decide_eq_false hq
        have e2 : (y == x) = false := beq_eq_false_iff_ne.2 hq
        go_wp2
        go_roundw
        case rel => exact ⟨k + 1, hlt, by go_num, HF, HC1, HW⟩
        case measure => simp [intOf]; omega
    · have HF := Lib.hid (show V.contains x = false by
        rw [Bool.eq_false_iff]
        intro hx
        rw [List.contains_iff_mem] at hx
        obtain ⟨j, hj, e⟩ := List.getElem_of_mem hx
        exact HN.out j (by omega) (by simp [hj, e]))
      clear HN
      go_wp2
      go_ret
      exact ⟨by rw [HF.out]; rfl, HW.out⟩
set_option maxRecDepth 100000 in
set_option maxHeartbeats 8000000 in
theorem rknown_any (v : Int) (w : World) : Calls Try.prog 23 #[.int .i64 v] w (ChK (kV v) (kM v) w) := by
  have HR0 := Lib.hid (Cs.new w w.heap.size #[.slice none 0 0, .slice none 0 0] 25 rfl)
  have HB0 := Lib.hid (al w (.cells #[.slice none 0 0, .slice none 0 0] 25))
  have HX0 := Lib.hid (BoxN.new w #[.slice none 0 0, .slice none 0 0] 25)
  cases hv : inr v 0 15
  · unfold kV kM
    rw [hv]
    go_enter Try.func23, Try.ntmps23
    go_wp2_with fail
    refine (between_any _ _ _ _).mono ?_
    rintro e y ⟨rfl, b⟩
    rw [hv]
    have HB1 := Lib.hid (keep2 b HB0.out)
    have HR1 := Lib.hid (HR0.out.step b)
    clear b
    have g0 := HR1.out.f 0 (by simp)
    have g1 := HR1.out.f 1 (by simp)
    have c0 := HR1.out.c 0 rfl
    have c1 := HR1.out.c 1 rfl
    have sz := HR1.out.2.2
    go_wp2
    refine (fun (h : ∀ X : World, Cs X w.heap.size #[.slice none 0 0, .slice none 0 0] → Chg w.heap.size y X → bodyPost Try.prog Try.f23 _ Exit.ret _ X) => h _ (Cs.set (Cs.set HR1.out 0 (by simp) (.slice none 0 0) rfl) 1 (by simp) (.slice none 0 0) (vs' := #[.slice none 0 0, .slice none 0 0]) rfl) (((Chg.of (Below.refl _ y)).set 0 _).set 1 _)) ?_
    intro X hC hB
    have k0 : X.cell? ⟨w.heap.size, 0, none⟩ = some (.slice none 0 0) := hC.c 0 rfl
    have k1 : X.cell? ⟨w.heap.size, 1, none⟩ = some (.slice none 0 0) := hC.c 1 rfl
    exact bodyPost_ret (v := .agg #[.slice none 0 0, .slice none 0 0]) (by simp [results, Try.results23, go_sem, k0, k1]) rfl ⟨none, 0, none, 0, rfl, HB1.out.trans (hB.below (by omega) HB1.out.size), ints_nil _, ods_nil _⟩
  · obtain ⟨M, hM⟩ : ∃ M, kM v = M := ⟨_, rfl⟩
    obtain ⟨V, hVV⟩ : ∃ V, kV v = V := ⟨_, rfl⟩
    have hv2 := inr_iff.1 hv
    have HM := Lib.hid (show M = [⟨-1, 0, -1, v⟩] by rw [← hM]; unfold kM; rw [hv]; rfl)
    have HVV := Lib.hid (show rvl M = V by rw [HM.out, rvl_one (x := ⟨-1, 0, -1, v⟩) ⟨hv2.1, show v < 16 by omega⟩, ← hVV]; unfold kV; rw [hv]; rfl)
    have HML := Lib.hid (show M.length = 1 by rw [HM.out]; rfl)
    rw [hM, hVV]
    clear hM hVV hv2
    go_enter Try.func23, Try.ntmps23
    go_wp2_with fail
    refine (between_any _ _ _ _).mono ?_
    rintro e y ⟨rfl, b⟩
    rw [hv]
    clear hv
    have HB1 := Lib.hid (keep2 b HB0.out)
    have HR1 := Lib.hid (HR0.out.step b)
    have HX1 := Lib.hid (HX0.out.step b)
    clear b HB0 HR0
    have HO2 := Lib.hid (Cs.new y y.heap.size #[.int .i64 (-1), .int .i64 0, .int .i64 (-1), .int .i64 v] 27 rfl)
    obtain ⟨w2, hw2⟩ : ∃ z, y.alloc (.cells #[.int .i64 (-1), .int .i64 0, .int .i64 (-1), .int .i64 v] 27) = z := ⟨_, rfl⟩
    rw [hw2] at HO2
    have HB3 := Lib.hid (show Below w.heap.size w w2 by rw [← hw2]; exact keep2 (al _ _) HB1.out)
    have HR3 := Lib.hid (show Cs w2 w.heap.size #[.slice none 0 0, .slice none 0 0] by rw [← hw2]; exact HR1.out.alloc _)
    have HX3 := Lib.hid (show BoxN w2 w.heap.size #[.slice none 0 0, .slice none 0 0] 25 by rw [← hw2]; exact HX1.out.step (al _ _))
    have HOD := Lib.hid (show OdsAt w2 (.slice (some ⟨y.heap.size, 0, none⟩) M.length 1) M by
      rw [HM.out]
      refine ⟨_, 1, rfl, by simp, by unfold maxLen; simp, fun _ => ⟨y.heap.size, 0, rfl, fun i x hi => ?_⟩⟩
      rcases i with _ | i
      · cases hi; exact ⟨HO2.out.c 0 rfl, HO2.out.c 1 rfl, HO2.out.c 2 rfl, HO2.out.c 3 rfl⟩
      · cases hi)
    have HOF := Lib.hid (of_any (some ⟨y.heap.size, 0, none⟩) 1 M w2 HOD.out (by rw [HML.out]; unfold maxLen; omega))
    rw [HML.out, HVV.out] at HOF
    have HW2 := Lib.hid hw2
    clear hw2
    go_wp2_with fail
    rw [HW2.out]
    refine HOF.out.mono ?_
    rintro e w4 ⟨ua, uc, rfl, hb4, hr4⟩
    have HB4 := Lib.hid (keep2 hb4 HB3.out)
    have HR4 := Lib.hid (HR3.out.step hb4)
    have HX4 := Lib.hid (HX3.out.step hb4)
    have HRB := Lib.hid hr4
    clear hb4 hr4 HOF
    have c0 := HR4.out.c 0 rfl
    have c1 := HR4.out.c 1 rfl
    have g0 := HR4.out.f 0 (by simp)
    have g1 := HR4.out.f 1 (by simp)
    have sz := HR4.out.2.2
    go_wp2
    refine (fun (h : ∀ X : World, Cs X w.heap.size #[.slice ua V.length uc, .slice (some ⟨y.heap.size, 0, none⟩) 1 1] → Chg w.heap.size w4 X → bodyPost Try.prog Try.f23 _ Exit.ret _ X) => h _ (Cs.set (Cs.set HR4.out 0 (by simp) (.slice ua V.length uc) rfl) 1 (by simp) (.slice (some ⟨y.heap.size, 0, none⟩) 1 1) (vs' := #[.slice ua V.length uc, .slice (some ⟨y.heap.size, 0, none⟩) 1 1]) rfl) (((Chg.of (Below.refl _ w4)).set 0 _).set 1 _)) ?_
    intro X hC hB
    have k0 : X.cell? ⟨w.heap.size, 0, none⟩ = some (.slice ua V.length uc) := hC.c 0 rfl
    have k1 : X.cell? ⟨w.heap.size, 1, none⟩ = some (.slice (some ⟨y.heap.size, 0, none⟩) 1 1) := hC.c 1 rfl
    exact bodyPost_ret (v := .agg #[.slice ua V.length uc, .slice (some ⟨y.heap.size, 0, none⟩) 1 1]) (by simp [results, Try.results23, go_sem, k0, k1]) rfl ⟨ua, uc, some ⟨y.heap.size, 0, none⟩, 1, by rw [HML.out], HB4.out.trans (hB.below (by omega) HB4.out.size), HRB.out.kept hB (sl_of HX4.out)⟩
end Go.Proofs.Ytigpopemllamdaa
