/- Beliefs: 'Known'. -/
import Derived.Test.YtigpopemllamdaaAv
namespace Go.Proofs.Ytigpopemllamdaa
open Go.RowKit

def kM (v : Int) : List Od := if inr v 0 15 = true then [⟨-1, 0, -1, v⟩] else []
def kV (v : Int) : List Int := if inr v 0 15 = true then [v] else []
theorem vof_one (x : Od) : vof [x] = [x.d] := by
  unfold vof
  rw [List.map_singleton, List.mergeSort_singleton]
  rfl
/-- A belief is returned. -/
def ChK (V : List Int) (M : List Od) (w : World) (e : Ending) (w' : World) : Prop :=
  ∃ (ua : Option Addr) (uc : Nat) (fa : Option Addr) (fc : Nat), e = .returned (.agg #[.slice ua V.length uc, .slice fa M.length fc]) ∧ Below w.heap.size w w' ∧ Rb V M ua uc fa fc w'
set_option maxRecDepth 100000 in
set_option maxHeartbeats 8000000 in
theorem known_any (v : Int) (w : World) : Calls Try.prog 22 #[.int .i64 v] w (ChK (kV v) (kM v) w) := by
  have HR0 := Lib.hid (Cs.new w w.heap.size #[.slice none 0 0, .slice none 0 0] 25 rfl)
  have HB0 := Lib.hid (al w (.cells #[.slice none 0 0, .slice none 0 0] 25))
  cases hv : inr v 0 15
  · unfold kV kM
    rw [hv]
    go_enter Try.func22, Try.ntmps22
    go_wp2_with fail
    refine (within_any _ _ _ _).mono ?_
    rintro e y ⟨rfl, b⟩
    rw [hv]
    have HB1 := Lib.hid (keep2 b HB0.out)
    have HR1 := Lib.hid (HR0.out.step b)
    clear b
    have g0 := HR1.out.f 0 (by simp)
    have g1 := HR1.out.f 1 (by simp)
    have c0 := HR1.out.c 0 rfl
    have c1 := HR1.out.c 1 rfl
    have sz := HR1.out.2.2
    go_wp2
    refine (fun (h : ∀ X : World, Cs X w.heap.size #[.slice none 0 0, .slice none 0 0] → Chg w.heap.size y X → bodyPost Try.prog Try.f22 _ Exit.ret _ X) => h _ (Cs.set (Cs.set HR1.out 0 (by simp) (.slice none 0 0) rfl) 1 (by simp) (.slice none 0 0) (vs' := #[.slice none 0 0, .slice none 0 0]) rfl) (((Chg.of (Below.refl _ y)).set 0 _).set 1 _)) ?_
    intro X hC hB
    have k0 : X.cell? ⟨w.heap.size, 0, none⟩ = some (.slice none 0 0) := hC.c 0 rfl
    have k1 : X.cell? ⟨w.heap.size, 1, none⟩ = some (.slice none 0 0) := hC.c 1 rfl
    exact bodyPost_ret (v := .agg #[.slice none 0 0, .slice none 0 0]) (by simp [results, Try.results22, go_sem, k0, k1]) rfl ⟨none, 0, none, 0, rfl, HB1.out.trans (hB.below (by omega) HB1.out.size), ints_nil _, ods_nil _⟩
  · obtain ⟨M, hM⟩ : ∃ M, kM v = M := ⟨_, rfl⟩
    obtain ⟨V, hVV⟩ : ∃ V, kV v = V := ⟨_, rfl⟩
    have HM := Lib.hid (show M = [⟨-1, 0, -1, v⟩] by rw [← hM]; unfold kM; rw [hv]; rfl)
    have HVV := Lib.hid (show vof M = V by rw [HM.out, vof_one, ← hVV]; unfold kV; rw [hv]; rfl)
    have HML := Lib.hid (show M.length = 1 by rw [HM.out]; rfl)
    rw [hM, hVV]
    clear hM hVV
    go_enter Try.func22, Try.ntmps22
    go_wp2_with fail
    refine (within_any _ _ _ _).mono ?_
    rintro e y ⟨rfl, b⟩
    rw [hv]
    clear hv
    have HB1 := Lib.hid (keep2 b HB0.out)
    have HR1 := Lib.hid (HR0.out.step b)
    clear b HB0 HR0
    have HK2 := Lib.hid (Cs.new y y.heap.size #[.slice none 0 0, .slice none 0 0] 73 rfl)
    have HB2 := Lib.hid (keep2 (al y (.cells #[.slice none 0 0, .slice none 0 0] 73)) HB1.out)
    have HR2 := Lib.hid (HR1.out.alloc (.cells #[.slice none 0 0, .slice none 0 0] 73))
    obtain ⟨w2, hw2⟩ : ∃ z, (y.alloc (.cells #[.slice none 0 0, .slice none 0 0] 73)).alloc (.cells #[.int .i64 (-1), .int .i64 0, .int .i64 (-1), .int .i64 v] 27) = z := ⟨_, rfl⟩
    have HO3 := Lib.hid (show Cs w2 (y.heap.size + 1) #[.int .i64 (-1), .int .i64 0, .int .i64 (-1), .int .i64 v] by rw [← hw2]; exact Cs.new _ _ _ _ (by simp))
    have HB3 := Lib.hid (show Below w.heap.size w w2 by rw [← hw2]; exact keep2 (al _ _) HB2.out)
    have HK3 := Lib.hid (show Cs w2 y.heap.size #[.slice none 0 0, .slice none 0 0] by rw [← hw2]; exact HK2.out.alloc _)
    have HR3 := Lib.hid (show Cs w2 w.heap.size #[.slice none 0 0, .slice none 0 0] by rw [← hw2]; exact HR2.out.alloc _)
    have HOD := Lib.hid (show OdsAt w2 (.slice (some ⟨y.heap.size + 1, 0, none⟩) M.length 1) M by
      rw [HM.out]
      refine ⟨_, 1, rfl, by simp, by unfold maxLen; simp, fun _ => ⟨y.heap.size + 1, 0, rfl, fun i x hi => ?_⟩⟩
      rcases i with _ | i
      · cases hi; exact ⟨HO3.out.c 0 rfl, HO3.out.c 1 rfl, HO3.out.c 2 rfl, HO3.out.c 3 rfl⟩
      · cases hi)
    have HBC := Lib.hid (become_any y.heap.size (.slice none 0 0) (.slice none 0 0) (some ⟨y.heap.size + 1, 0, none⟩) 1 M w2 HK3.out HOD.out (by rw [HML.out]; omega))
    rw [HML.out] at HBC
    have HW2 := Lib.hid hw2
    clear hw2
    go_wp2_with fail
    rw [HW2.out]
    refine HBC.out.mono ?_
    rintro e w4 ⟨rfl, ⟨ua, uc, hc, hi, hu⟩, hg⟩
    rw [HVV.out] at hc hi
    have HBB := Lib.hid (HB3.out.trans (hg.below (show w.heap.size ≤ y.heap.size from HB1.out.size) HB3.out.size))
    have HR4 := Lib.hid (hg.cs (show w.heap.size ≠ y.heap.size by have := HR1.out.2.2; omega) HR3.out)
    have HOE := Lib.hid (hg.ods (fun g o e => by cases e; omega) HOD.out)
    have HIU := Lib.hid hi
    have HUU := Lib.hid hu
    have HKC := Lib.hid hc
    have HLT := Lib.hid (show w.heap.size < w2.heap.size from HR3.out.2.2)
    clear hc hi hu hg HBC
    have c0 := HKC.out.c 0 rfl
    have c1 := HKC.out.c 1 rfl
    have cz := HKC.out.2.2
    have d0 := HR4.out.c 0 rfl
    have d1 := HR4.out.c 1 rfl
    have g0 := HR4.out.f 0 (by simp)
    have g1 := HR4.out.f 1 (by simp)
    have sz := HR4.out.2.2
    go_wp2
    refine (fun (h : ∀ X : World, Cs X w.heap.size #[.slice ua V.length uc, .slice (some ⟨y.heap.size + 1, 0, none⟩) 1 1] → Chg w.heap.size w4 X → bodyPost Try.prog Try.f22 _ Exit.ret _ X) => h _ (Cs.set (Cs.set HR4.out 0 (by simp) (.slice ua V.length uc) rfl) 1 (by simp) (.slice (some ⟨y.heap.size + 1, 0, none⟩) 1 1) (vs' := #[.slice ua V.length uc, .slice (some ⟨y.heap.size + 1, 0, none⟩) 1 1]) rfl) (((Chg.of (Below.refl _ w4)).set 0 _).set 1 _)) ?_
    intro X hC hB
    have k0 : X.cell? ⟨w.heap.size, 0, none⟩ = some (.slice ua V.length uc) := hC.c 0 rfl
    have k1 : X.cell? ⟨w.heap.size, 1, none⟩ = some (.slice (some ⟨y.heap.size + 1, 0, none⟩) 1 1) := hC.c 1 rfl
    exact bodyPost_ret (v := .agg #[.slice ua V.length uc, .slice (some ⟨y.heap.size + 1, 0, none⟩) 1 1]) (by simp [results, Try.results22, go_sem, k0, k1]) rfl ⟨ua, uc, some ⟨y.heap.size + 1, 0, none⟩, 1, by rw [HML.out], HBB.out.trans (hB.below (by omega) HBB.out.size), hB.ints (fun g o e => by have := HUU.out g o e; have := HLT.out; omega) HIU.out, by
      have h := hB.ods (fun g o e => by cases e; have := HB1.out.size; omega) HOE.out
      exact h⟩
end Go.Proofs.Ytigpopemllamdaa
