import Derived.Test.YtolinnmhdclgpaaAs
namespace Go.Proofs.Ytolinnmhdclgpaa
open Go.RowKit

/-- What 'Reported' answers. -/
def rnE (V : List Int) (L : List Od) (v t : Int) : Int := if isV V L = true then rpE V L v t else 1
theorem al4 {w : World} {a b c d : Obj} : Below w.heap.size w ((((w.alloc a).alloc b).alloc c).alloc d) :=
  (((al w a).alloc (by simp) _).alloc (by simp; omega) _).alloc (by simp; omega) _
set_option maxRecDepth 100000 in
set_option maxHeartbeats 8000000 in
theorem reported_any (va : Option Addr) (vc : Nat) (V : List Int) (sa : Option Addr) (sc : Nat) (L : List Od) (v t : Int) (w : World) (h : OdsAt w (.slice sa L.length sc) L) (hV : IntsAt w (.slice va V.length vc) V) (h9 : L.length ≤ 300) (h8 : V.length ≤ 300) (M : List Od) (hM : rpM L v t = M) :
    Calls Try.prog 15 #[.agg #[.slice va V.length vc, .slice sa L.length sc], .int .i64 v, .int .i64 t] w (ChP w (rnE V L v t) M) := by
  have HM := Lib.hid hM
  clear hM
  obtain ⟨w0, hw0⟩ : ∃ w0, ((((w.alloc (.cells #[.slice va V.length vc, .slice sa L.length sc] 25)).alloc (.cells #[.int .i64 v] 3)).alloc (.cells #[.int .i64 t] 3)).alloc (.cells #[.slice none 0 0, .slice none 0 0] 25)) = w0 := ⟨_, rfl⟩
  have HB0 := Lib.hid (show Below w.heap.size w w0 by rw [← hw0]; exact al4)
  have HO0 := Lib.hid (show Cs w0 (w.heap.size + 1) #[.int .i64 v] by rw [← hw0]; exact ((Cs.new _ _ _ _ (by simp)).alloc _).alloc _)
  have HP0 := Lib.hid (show Cs w0 (w.heap.size + 1 + 1) #[.int .i64 t] by rw [← hw0]; exact (Cs.new _ _ _ _ (by simp)).alloc _)
  have HR0 := Lib.hid (show Cs w0 (w.heap.size + 1 + 1 + 1) #[.slice none 0 0, .slice none 0 0] by rw [← hw0]; exact Cs.new _ _ _ _ (by simp))
  have HX0 := Lib.hid (show Cs w0 w.heap.size #[.slice va V.length vc, .slice sa L.length sc] by rw [← hw0]; exact (((Cs.new _ _ _ _ rfl).alloc _).alloc _).alloc _)
  have b0 := HX0.out.c 0 rfl
  have b1 := HX0.out.c 1 rfl
  have bz := HX0.out.2.2
  have HL0 := Lib.hid (h.step HB0.out)
  have HV0 := Lib.hid (hV.step HB0.out)
  have HR1 := Lib.hid (show isV V L = true → rnE V L v t = rpE V L v t from fun h => by unfold rnE; rw [if_pos h])
  have HR2 := Lib.hid (show isV V L = false → rnE V L v t = 1 from fun h => by unfold rnE; rw [if_neg (by rw [h]; exact Bool.noConfusion)])
  generalize rnE V L v t = R at *
  clear h hV
  go_enter Try.func15, Try.ntmps15
  go_wp2_with fail
  refine (changed_any 45 #[.pointer (some ⟨w.heap.size + 1, 0, none⟩), .pointer (some ⟨w.heap.size + 1 + 1, 0, none⟩)] va vc V sa sc L (rpE V L v t) R M w0 HR1.out HR2.out HL0.out HV0.out h9 h8 eg45 (fun k w1 hk hb hc hl hv _ => by have := reported1_any k (w.heap.size + 1) (w.heap.size + 1 + 1) va vc V sa sc L v t w1 (HO0.out.step hb) (HP0.out.step hb) hc hl hv h9 h8; rw [HM.out] at this; exact this)).mono ?_
  rintro e w2 ⟨bv, rfl, hb, h1, h2⟩
  have HB := Lib.hid (keep2 hb HB0.out)
  have H1 := Lib.hid h1
  have H2 := Lib.hid h2
  have HS := Lib.hid (HR0.out.step hb)
  clear hb h1 h2 hw0
  have s0 := HS.out.c 0 rfl
  have s1 := HS.out.c 1 rfl
  have g0 := HS.out.f 0 (by simp)
  have g1 := HS.out.f 1 (by simp)
  have sz := HS.out.2.2
  clear b0 b1 bz
  by_cases hz : R = 0
  · obtain ⟨ua, uc, fa, fc, rfl, hi, ho, ku, kf⟩ := H2.out hz
    have HI := Lib.hid hi
    have HOO := Lib.hid ho
    have HKU := Lib.hid ku
    have HKF := Lib.hid kf
    have HZ := Lib.hid HR0.out.2.2
    clear hi ho ku kf
    go_wp2
    refine (fun (h : ∀ X : World, Cs X (w.heap.size + 1 + 1 + 1) #[.slice ua (vof M).length uc, .slice fa M.length fc] → Chg (w.heap.size + 1 + 1 + 1) w2 X → bodyPost Try.prog Try.f15 _ Exit.ret _ X) => h _ (Cs.set (Cs.set HS.out 0 (by simp) (.slice ua (vof M).length uc) rfl) 1 (by simp) (.slice fa M.length fc) (vs' := #[.slice ua (vof M).length uc, .slice fa M.length fc]) rfl) (((Chg.of (Below.refl _ w2)).set 0 _).set 1 _)) ?_
    intro X hC hB
    have k0 : X.cell? ⟨w.heap.size + 1 + 1 + 1, 0, none⟩ = some (.slice ua (vof M).length uc) := hC.c 0 rfl
    have k1 : X.cell? ⟨w.heap.size + 1 + 1 + 1, 1, none⟩ = some (.slice fa M.length fc) := hC.c 1 rfl
    exact bodyPost_ret (v := .tuple #[.agg #[.slice ua (vof M).length uc, .slice fa M.length fc], .int .i64 0]) (by simp [results, Try.results15, go_sem, k0, k1]) rfl ⟨(.agg #[.slice ua (vof M).length uc, .slice fa M.length fc]), by rw [hz], HB.out.trans (hB.below (by omega) HB.out.size), fun e => absurd hz e, fun _ => ⟨ua, uc, fa, fc, rfl, hB.ints (fun g o e h => by have := HKU.out g o e; have := HZ.out; omega) HI.out, hB.ods (fun g o e h => by have := HKF.out g o e; have := HZ.out; omega) HOO.out, fun g o e => Nat.le_trans HB0.out.size (HKU.out g o e), fun g o e => Nat.le_trans HB0.out.size (HKF.out g o e)⟩⟩
  · obtain rfl := H1.out hz
    unfold zB
    go_wp2
    refine (fun (h : ∀ X : World, Cs X (w.heap.size + 1 + 1 + 1) #[.slice none 0 0, .slice none 0 0] → Chg (w.heap.size + 1 + 1 + 1) w2 X → bodyPost Try.prog Try.f15 _ Exit.ret _ X) => h _ (Cs.set (Cs.set HS.out 0 (by simp) (.slice none 0 0) rfl) 1 (by simp) (.slice none 0 0) (vs' := #[.slice none 0 0, .slice none 0 0]) rfl) (((Chg.of (Below.refl _ w2)).set 0 _).set 1 _)) ?_
    intro X hC hB
    have k0 : X.cell? ⟨w.heap.size + 1 + 1 + 1, 0, none⟩ = some (.slice none 0 0) := hC.c 0 rfl
    have k1 : X.cell? ⟨w.heap.size + 1 + 1 + 1, 1, none⟩ = some (.slice none 0 0) := hC.c 1 rfl
    exact bodyPost_ret (v := .tuple #[.agg #[.slice none 0 0, .slice none 0 0], .int .i64 R]) (by simp [results, Try.results15, go_sem, k0, k1]) rfl ⟨zB, rfl, HB.out.trans (hB.below (by omega) HB.out.size), fun _ => rfl, fun e => absurd e hz⟩
end Go.Proofs.Ytolinnmhdclgpaa
