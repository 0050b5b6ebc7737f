/- Beliefs: 'changed'. -/
import Derived.Test.YtigpopemllamdaaAn
namespace Go.Proofs.Ytigpopemllamdaa
open Go.RowKit

/-- A belief with records. -/
def BelV (w : World) (B : Nat) (bv : Value) (M : List Od) : Prop :=
  ∃ (ua : Option Addr) (uc : Nat) (fa : Option Addr) (fc : Nat), bv = .agg #[.slice ua (vof M).length uc, .slice fa M.length fc] ∧ IntsAt w (.slice ua (vof M).length uc) (vof M) ∧ OdsAt w (.slice fa M.length fc) M ∧ (∀ g o, ua = some ⟨g, o, none⟩ → B ≤ g) ∧ ∀ g o, fa = some ⟨g, o, none⟩ → B ≤ g
def zB : Value := .agg #[.slice none 0 0, .slice none 0 0]
/-- A belief and an error number are returned. -/
def ChP (w : World) (E : Int) (M : List Od) (e : Ending) (w' : World) : Prop :=
  ∃ bv, e = .returned (.tuple #[bv, .int .i64 E]) ∧ Below w.heap.size w w' ∧ (E ≠ 0 → bv = zB) ∧ (E = 0 → BelV w' w.heap.size bv M)
set_option maxRecDepth 100000 in
set_option maxHeartbeats 8000000 in
theorem changed_any (n : Nat) (caps : Array Value) (va : Option Addr) (vc : Nat) (V : List Int) (sa : Option Addr) (sc : Nat) (L : List Od) (E R : Int) (M : List Od) (w : World) (hR1 : isV V L = true → R = E) (hR2 : isV V L = false → R = 1)
    (h : OdsAt w (.slice sa L.length sc) L) (hV : IntsAt w (.slice va V.length vc) V) (h9 : L.length ≤ 300) (h8 : V.length ≤ 300) (heg : ∀ args w, (callFunc n args).run Try.prog w = .ok (.enter n args) w)
    (hF : ∀ k w1, w.heap.size ≤ k → Below w.heap.size w w1 → Cs w1 k #[.slice va V.length vc, .slice sa L.length sc] → OdsAt w1 (.slice sa L.length sc) L → IntsAt w1 (.slice va V.length vc) V → isV V L = true → Calls Try.prog n (#[.pointer (some ⟨k, 0, none⟩)] ++ caps) w1 (Done k w1 E M)) :
    Calls Try.prog 37 #[.agg #[.slice va V.length vc, .slice sa L.length sc], .func (.func n) #[] caps] w (ChP w R M) := by
  obtain ⟨w0, hw0⟩ : ∃ w0, ((w.alloc (.cells #[.slice va V.length vc, .slice sa L.length sc] 25)).alloc (.cells #[.slice none 0 0, .slice none 0 0] 25)).alloc (.cells #[.slice va V.length vc, .slice sa L.length sc] 73) = w0 := ⟨_, rfl⟩
  have HB0 := Lib.hid (show Below w.heap.size w w0 by rw [← hw0]; exact al3)
  have HC0 := Lib.hid (show Cs w0 (w.heap.size + 1 + 1) #[.slice va V.length vc, .slice sa L.length sc] by rw [← hw0]; exact Cs.new _ _ _ _ (by simp))
  have HR0 := Lib.hid (show Cs w0 (w.heap.size + 1) #[.slice none 0 0, .slice none 0 0] by rw [← hw0]; exact (Cs.new _ _ _ _ (by simp)).alloc _)
  have HL0 := Lib.hid (h.step HB0.out)
  have HV0 := Lib.hid (hV.step HB0.out)
  have HF := Lib.hid hF
  have b0 : (w.alloc (.cells #[.slice va V.length vc, .slice sa L.length sc] 25)).cell? ⟨w.heap.size, 0, none⟩ = some (.slice va V.length vc) := (Cs.new _ _ _ _ rfl).c 0 rfl
  have b1 : (w.alloc (.cells #[.slice va V.length vc, .slice sa L.length sc] 25)).cell? ⟨w.heap.size, 1, none⟩ = some (.slice sa L.length sc) := (Cs.new _ _ _ _ rfl).c 1 rfl
  have hLm : L.length ≤ 100000 := by omega
  have hVm : V.length ≤ 100000 := by omega
  have HR1 := Lib.hid hR1
  have HR2 := Lib.hid hR2
  clear h hV hF hR1 hR2
  go_enter Try.func37, Try.ntmps37
  go_wp2_with fail
  refine (isValid_any (w.heap.size + 1 + 1) va vc V sa sc L _ HC0.out HL0.out HV0.out hLm hVm).mono ?_
  rintro e y1 ⟨rfl, b⟩
  have HB1 := Lib.hid (keep2 b HB0.out)
  have HC1 := Lib.hid (HC0.out.step b)
  have HS1 := Lib.hid (HR0.out.step b)
  have HL1 := Lib.hid (HL0.out.step b)
  have HV1 := Lib.hid (HV0.out.step b)
  clear b b0 b1 hw0 HB0 HC0 HR0 HL0 HV0
  have s0 := HS1.out.c 0 rfl
  have s1 := HS1.out.c 1 rfl
  have g0 := HS1.out.f 0 (by simp)
  have g1 := HS1.out.f 1 (by simp)
  have sz := HS1.out.2.2
  cases hv : isV V L
  · have HE := Lib.hid (HR2.out hv)
    go_wp2
    refine (fun (h : ∀ V : World, Cs V (w.heap.size + 1) #[.slice none 0 0, .slice none 0 0] → Chg (w.heap.size + 1) y1 V → bodyPost Try.prog Try.f37 _ Exit.ret _ V) => h _ (Cs.set (Cs.set HS1.out 0 (by simp) (.slice none 0 0) rfl) 1 (by simp) (.slice none 0 0) (vs' := #[.slice none 0 0, .slice none 0 0]) rfl) (((Chg.of (Below.refl _ y1)).set 0 _).set 1 _)) ?_
    intro V hC hB
    have k0 : V.cell? ⟨w.heap.size + 1, 0, none⟩ = some (.slice none 0 0) := hC.c 0 rfl
    have k1 : V.cell? ⟨w.heap.size + 1, 1, none⟩ = some (.slice none 0 0) := hC.c 1 rfl
    exact bodyPost_ret (v := .tuple #[.agg #[.slice none 0 0, .slice none 0 0], .int .i64 1]) (by simp [results, Try.results37, go_sem, k0, k1]) rfl ⟨zB, by rw [HE.out]; rfl, HB1.out.trans (hB.below (by omega) HB1.out.size), fun _ => rfl, fun e => by rw [HE.out] at e; cases e⟩
  · have HE := Lib.hid (HR1.out hv)
    have HG := Lib.hid (HF.out (w.heap.size + 1 + 1) y1 (by omega) HB1.out HC1.out HL1.out HV1.out hv)
    go_wp2_with fail
    refine HG.out.mono ?_
    rintro e y2 ⟨rfl, hc, hd⟩
    have HS2 := Lib.hid (hc.cs (show w.heap.size + 1 ≠ w.heap.size + 1 + 1 by omega) HS1.out)
    have HB2 := Lib.hid (HB1.out.trans (hc.below (by omega) HB1.out.size))
    have hs1 : w.heap.size + 1 < y1.heap.size := HS1.out.2.2
    have HGE := Lib.hid hs1
    clear s0 s1 g0 g1 sz hs1
    have s0 := HS2.out.c 0 rfl
    have s1 := HS2.out.c 1 rfl
    have g0 := HS2.out.f 0 (by simp)
    have g1 := HS2.out.f 1 (by simp)
    have sz := HS2.out.2.2
    by_cases hz : E = 0
    · obtain ⟨fa, fc, ⟨ua, uc, hbc, hbi, hua⟩, hod, hfa⟩ := hd hz
      subst hz
      have HBC := Lib.hid hbc
      have HBI := Lib.hid hbi
      have HOD := Lib.hid hod
      have HUA := Lib.hid hua
      have HFA := Lib.hid hfa
      have m0 := hbc.c 0 rfl
      have m1 := hbc.c 1 rfl
      have mz := hbc.2.2
      clear hbc hbi hod hua hfa hc hd HG
      go_wp2
      refine (fun (h : ∀ V : World, Cs V (w.heap.size + 1) #[.slice ua (vof M).length uc, .slice fa M.length fc] → Chg (w.heap.size + 1) y2 V → bodyPost Try.prog Try.f37 _ Exit.ret _ V) => h _ (Cs.set (Cs.set HS2.out 0 (by simp) (.slice ua (vof M).length uc) rfl) 1 (by simp) (.slice fa M.length fc) (vs' := #[.slice ua (vof M).length uc, .slice fa M.length fc]) rfl) (((Chg.of (Below.refl _ y2)).set 0 _).set 1 _)) ?_
      intro V hC hB
      have k0 : V.cell? ⟨w.heap.size + 1, 0, none⟩ = some (.slice ua (vof M).length uc) := hC.c 0 rfl
      have k1 : V.cell? ⟨w.heap.size + 1, 1, none⟩ = some (.slice fa M.length fc) := hC.c 1 rfl
      exact bodyPost_ret (v := .tuple #[.agg #[.slice ua (vof M).length uc, .slice fa M.length fc], .int .i64 0]) (by simp [results, Try.results37, go_sem, k0, k1]) rfl ⟨(.agg #[.slice ua (vof M).length uc, .slice fa M.length fc]), by rw [HE.out], HB2.out.trans (hB.below (by omega) HB2.out.size), fun e => absurd HE.out e, fun _ => ⟨ua, uc, fa, fc, rfl, hB.ints (fun g o e h => by have := HUA.out g o e; have := HGE.out; omega) HBI.out, hB.ods (fun g o e h => by have := HFA.out g o e; have := HGE.out; omega) HOD.out, fun g o e => Nat.le_trans HB1.out.size (HUA.out g o e), fun g o e => Nat.le_trans HB1.out.size (HFA.out g o e)⟩⟩
    · clear hc hd HG
      go_wp2
      refine (fun (h : ∀ V : World, Cs V (w.heap.size + 1) #[.slice none 0 0, .slice none 0 0] → Chg (w.heap.size + 1) y2 V → bodyPost Try.prog Try.f37 _ Exit.ret _ V) => h _ (Cs.set (Cs.set HS2.out 0 (by simp) (.slice none 0 0) rfl) 1 (by simp) (.slice none 0 0) (vs' := #[.slice none 0 0, .slice none 0 0]) rfl) (((Chg.of (Below.refl _ y2)).set 0 _).set 1 _)) ?_
      intro V hC hB
      have k0 : V.cell? ⟨w.heap.size + 1, 0, none⟩ = some (.slice none 0 0) := hC.c 0 rfl
      have k1 : V.cell? ⟨w.heap.size + 1, 1, none⟩ = some (.slice none 0 0) := hC.c 1 rfl
      exact bodyPost_ret (v := .tuple #[.agg #[.slice none 0 0, .slice none 0 0], .int .i64 E]) (by simp [results, Try.results37, go_sem, k0, k1]) rfl ⟨zB, by rw [HE.out]; rfl, HB2.out.trans (hB.below (by omega) HB2.out.size), fun _ => rfl, fun e => absurd (HE.out.symm.trans e) hz⟩
end Go.Proofs.Ytigpopemllamdaa
