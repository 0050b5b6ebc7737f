/- Delivery, the reference: 'Receive', the ways that change nothing. -/
import Derived.Test.YtkamkkjijjkfdaaDv
namespace Go.Proofs.Ytkamkkjijjkfdaa
open Go.RowKit

/-- What the reference's 'Receive' returns. -/
def RrP (w : World) (T : Int) (A : List Bool) (F : Int) (nl : Nat) (V : List Int) (D : Int) (ok : Bool) (er : Int) (e : Ending) (w' : World) : Prop :=
  ∃ (cc vc : Nat) (aa va : Option Addr), e = .returned (.tuple #[.agg #[.int .i64 T, .slice aa A.length cc, .int .i64 F, .slice va nl vc, .int .i64 D], .bool ok, .int .i64 er]) ∧ A.length ≤ cc ∧ BosAt w' (.slice aa A.length cc) A ∧ IntsAt w' (.slice va nl vc) V ∧ Below w.heap.size w w'
set_option maxRecDepth 100000 in
set_option maxHeartbeats 8000000 in
theorem rreceive_nowin (t f dn a b c d : Int) (sa va : Option Addr) (sc vc : Nat) (L : List Bool) (l : List Int) (w : World) (hs : BosAt w (.slice sa L.length sc) L) (hc : L.length ≤ sc) (hv : IntsAt w (.slice va l.length vc) l) (hwf : ¬ WF t L) :
    Calls Try.prog 14 #[.agg #[.int .i64 t, .slice sa L.length sc, .int .i64 f, .slice va l.length vc, .int .i64 dn], .agg #[.int .i64 a, .int .i64 b, .int .i64 c, .int .i64 d]] w (RrP w t L f l.length l dn false 1) := by
  have HS := Lib.hid hs
  have HV := Lib.hid hv
  have HCP := Lib.hid hc
  clear hs hv hc
  have HWF := Lib.hid hwf
  clear hwf
  have H0 := Lib.hid (Below.refl w.heap.size w)
  have H1 := Lib.hid (keep2 (al w (.cells #[.int .i64 t, .slice sa L.length sc, .int .i64 f, .slice va l.length vc, .int .i64 dn] 30)) H0.out)
  clear H0
  have H2 := Lib.hid (Cs.new w (w.heap.size) #[.int .i64 t, .slice sa L.length sc, .int .i64 f, .slice va l.length vc, .int .i64 dn] 30 (by simp))
  have H3 := Lib.hid (H2.out.step (al (w.alloc (.cells #[.int .i64 t, .slice sa L.length sc, .int .i64 f, .slice va l.length vc, .int .i64 dn] 30)) (.cells #[.int .i64 a, .int .i64 b, .int .i64 c, .int .i64 d] 32)))
  clear H2
  have H4 := Lib.hid (keep2 (al (w.alloc (.cells #[.int .i64 t, .slice sa L.length sc, .int .i64 f, .slice va l.length vc, .int .i64 dn] 30)) (.cells #[.int .i64 a, .int .i64 b, .int .i64 c, .int .i64 d] 32)) H1.out)
  clear H1
  have H5 := Lib.hid (Cs.new (w.alloc (.cells #[.int .i64 t, .slice sa L.length sc, .int .i64 f, .slice va l.length vc, .int .i64 dn] 30)) (w.heap.size + 1) #[.int .i64 a, .int .i64 b, .int .i64 c, .int .i64 d] 32 (by simp))
  have H6 := Lib.hid (H3.out.step (al ((w.alloc (.cells #[.int .i64 t, .slice sa L.length sc, .int .i64 f, .slice va l.length vc, .int .i64 dn] 30)).alloc (.cells #[.int .i64 a, .int .i64 b, .int .i64 c, .int .i64 d] 32)) (.cells #[.int .i64 0, .slice none 0 0, .int .i64 0, .slice none 0 0, .int .i64 0] 30)))
  clear H3
  have H7 := Lib.hid (H5.out.step (al ((w.alloc (.cells #[.int .i64 t, .slice sa L.length sc, .int .i64 f, .slice va l.length vc, .int .i64 dn] 30)).alloc (.cells #[.int .i64 a, .int .i64 b, .int .i64 c, .int .i64 d] 32)) (.cells #[.int .i64 0, .slice none 0 0, .int .i64 0, .slice none 0 0, .int .i64 0] 30)))
  clear H5
  have H8 := Lib.hid (keep2 (al ((w.alloc (.cells #[.int .i64 t, .slice sa L.length sc, .int .i64 f, .slice va l.length vc, .int .i64 dn] 30)).alloc (.cells #[.int .i64 a, .int .i64 b, .int .i64 c, .int .i64 d] 32)) (.cells #[.int .i64 0, .slice none 0 0, .int .i64 0, .slice none 0 0, .int .i64 0] 30)) H4.out)
  clear H4
  have H9 := Lib.hid (Cs.new ((w.alloc (.cells #[.int .i64 t, .slice sa L.length sc, .int .i64 f, .slice va l.length vc, .int .i64 dn] 30)).alloc (.cells #[.int .i64 a, .int .i64 b, .int .i64 c, .int .i64 d] 32)) (w.heap.size + 1 + 1) #[.int .i64 0, .slice none 0 0, .int .i64 0, .slice none 0 0, .int .i64 0] 30 (by simp))
  go_enter Try.func14, Try.ntmps14
  have xR0 : (((w.alloc (.cells #[.int .i64 t, .slice sa L.length sc, .int .i64 f, .slice va l.length vc, .int .i64 dn] 30)).alloc (.cells #[.int .i64 a, .int .i64 b, .int .i64 c, .int .i64 d] 32)).alloc (.cells #[.int .i64 0, .slice none 0 0, .int .i64 0, .slice none 0 0, .int .i64 0] 30)).cell? ⟨(w.heap.size), 0, none⟩ = some (.int .i64 t) := H6.out.c 0 rfl
  have xR1 : (((w.alloc (.cells #[.int .i64 t, .slice sa L.length sc, .int .i64 f, .slice va l.length vc, .int .i64 dn] 30)).alloc (.cells #[.int .i64 a, .int .i64 b, .int .i64 c, .int .i64 d] 32)).alloc (.cells #[.int .i64 0, .slice none 0 0, .int .i64 0, .slice none 0 0, .int .i64 0] 30)).cell? ⟨(w.heap.size), 1, none⟩ = some (.slice sa L.length sc) := H6.out.c 1 rfl
  have xR2 : (((w.alloc (.cells #[.int .i64 t, .slice sa L.length sc, .int .i64 f, .slice va l.length vc, .int .i64 dn] 30)).alloc (.cells #[.int .i64 a, .int .i64 b, .int .i64 c, .int .i64 d] 32)).alloc (.cells #[.int .i64 0, .slice none 0 0, .int .i64 0, .slice none 0 0, .int .i64 0] 30)).cell? ⟨(w.heap.size), 2, none⟩ = some (.int .i64 f) := H6.out.c 2 rfl
  have xR3 : (((w.alloc (.cells #[.int .i64 t, .slice sa L.length sc, .int .i64 f, .slice va l.length vc, .int .i64 dn] 30)).alloc (.cells #[.int .i64 a, .int .i64 b, .int .i64 c, .int .i64 d] 32)).alloc (.cells #[.int .i64 0, .slice none 0 0, .int .i64 0, .slice none 0 0, .int .i64 0] 30)).cell? ⟨(w.heap.size), 3, none⟩ = some (.slice va l.length vc) := H6.out.c 3 rfl
  have xR4 : (((w.alloc (.cells #[.int .i64 t, .slice sa L.length sc, .int .i64 f, .slice va l.length vc, .int .i64 dn] 30)).alloc (.cells #[.int .i64 a, .int .i64 b, .int .i64 c, .int .i64 d] 32)).alloc (.cells #[.int .i64 0, .slice none 0 0, .int .i64 0, .slice none 0 0, .int .i64 0] 30)).cell? ⟨(w.heap.size), 4, none⟩ = some (.int .i64 dn) := H6.out.c 4 rfl
  have zR : (w.heap.size) < (((w.alloc (.cells #[.int .i64 t, .slice sa L.length sc, .int .i64 f, .slice va l.length vc, .int .i64 dn] 30)).alloc (.cells #[.int .i64 a, .int .i64 b, .int .i64 c, .int .i64 d] 32)).alloc (.cells #[.int .i64 0, .slice none 0 0, .int .i64 0, .slice none 0 0, .int .i64 0] 30)).heap.size := H6.out.2.2
  go_wp2_with fail
  refine (rrecv_nowin t f dn sa va sc vc L l _ (HS.out.step H8.out) HCP.out (HV.out.step H8.out) HWF.out).mono ?_
  rintro e u1 ⟨rfl, b1⟩
  clear xR0 xR1 xR2 xR3 xR4 zR
  have H10 := Lib.hid (H6.out.step b1)
  clear H6
  have H11 := Lib.hid (H7.out.step b1)
  clear H7
  have H12 := Lib.hid (H9.out.step b1)
  clear H9
  have H13 := Lib.hid (keep2 b1 H8.out)
  clear H8
  clear b1
  have xR0 : u1.cell? ⟨(w.heap.size), 0, none⟩ = some (.int .i64 t) := H10.out.c 0 rfl
  have xR1 : u1.cell? ⟨(w.heap.size), 1, none⟩ = some (.slice sa L.length sc) := H10.out.c 1 rfl
  have xR2 : u1.cell? ⟨(w.heap.size), 2, none⟩ = some (.int .i64 f) := H10.out.c 2 rfl
  have xR3 : u1.cell? ⟨(w.heap.size), 3, none⟩ = some (.slice va l.length vc) := H10.out.c 3 rfl
  have xR4 : u1.cell? ⟨(w.heap.size), 4, none⟩ = some (.int .i64 dn) := H10.out.c 4 rfl
  have zR : (w.heap.size) < u1.heap.size := H10.out.2.2
  have xO0 : u1.cell? ⟨(w.heap.size + 1), 0, none⟩ = some (.int .i64 a) := H11.out.c 0 rfl
  have xO1 : u1.cell? ⟨(w.heap.size + 1), 1, none⟩ = some (.int .i64 b) := H11.out.c 1 rfl
  have xO2 : u1.cell? ⟨(w.heap.size + 1), 2, none⟩ = some (.int .i64 c) := H11.out.c 2 rfl
  have xO3 : u1.cell? ⟨(w.heap.size + 1), 3, none⟩ = some (.int .i64 d) := H11.out.c 3 rfl
  have zO : (w.heap.size + 1) < u1.heap.size := H11.out.2.2
  have xZ0 : u1.cell? ⟨(w.heap.size + 1 + 1), 0, none⟩ = some (.int .i64 0) := H12.out.c 0 rfl
  have xZ1 : u1.cell? ⟨(w.heap.size + 1 + 1), 1, none⟩ = some (.slice none 0 0) := H12.out.c 1 rfl
  have xZ2 : u1.cell? ⟨(w.heap.size + 1 + 1), 2, none⟩ = some (.int .i64 0) := H12.out.c 2 rfl
  have xZ3 : u1.cell? ⟨(w.heap.size + 1 + 1), 3, none⟩ = some (.slice none 0 0) := H12.out.c 3 rfl
  have xZ4 : u1.cell? ⟨(w.heap.size + 1 + 1), 4, none⟩ = some (.int .i64 0) := H12.out.c 4 rfl
  have zZ : (w.heap.size + 1 + 1) < u1.heap.size := H12.out.2.2
  have yz0 : u1.frozen? ⟨w.heap.size + 1 + 1, 0, none⟩ = false := H12.out.f 0 (by simp)
  have yz1 : u1.frozen? ⟨w.heap.size + 1 + 1, 1, none⟩ = false := H12.out.f 1 (by simp)
  have yz2 : u1.frozen? ⟨w.heap.size + 1 + 1, 2, none⟩ = false := H12.out.f 2 (by simp)
  have yz3 : u1.frozen? ⟨w.heap.size + 1 + 1, 3, none⟩ = false := H12.out.f 3 (by simp)
  have yz4 : u1.frozen? ⟨w.heap.size + 1 + 1, 4, none⟩ = false := H12.out.f 4 (by simp)
  go_wp2_with fail
  have HLE := Lib.hid (show w.heap.size ≤ w.heap.size + 1 + 1 by omega)
  refine (fun (h : ∀ V : World, Cs V (w.heap.size + 1 + 1) #[.int .i64 t, .slice sa L.length sc, .int .i64 f, .slice va l.length vc, .int .i64 dn] → Below w.heap.size w V → bodyPost Try.prog Try.f14 _ Exit.ret _ V) => h _ (Cs.set (Cs.set (Cs.set (Cs.set (Cs.set (H12.out) 0 (by simp) (.int .i64 t) (vs' := #[.int .i64 t, .slice none 0 0, .int .i64 0, .slice none 0 0, .int .i64 0]) rfl) 1 (by simp) (.slice sa L.length sc) (vs' := #[.int .i64 t, .slice sa L.length sc, .int .i64 0, .slice none 0 0, .int .i64 0]) rfl) 2 (by simp) (.int .i64 f) (vs' := #[.int .i64 t, .slice sa L.length sc, .int .i64 f, .slice none 0 0, .int .i64 0]) rfl) 3 (by simp) (.slice va l.length vc) (vs' := #[.int .i64 t, .slice sa L.length sc, .int .i64 f, .slice va l.length vc, .int .i64 0]) rfl) 4 (by simp) (.int .i64 dn) (vs' := #[.int .i64 t, .slice sa L.length sc, .int .i64 f, .slice va l.length vc, .int .i64 dn]) rfl) ((((((H13.out).setCell (p := ⟨w.heap.size + 1 + 1, 0, none⟩) HLE.out _).setCell (p := ⟨w.heap.size + 1 + 1, 1, none⟩) HLE.out _).setCell (p := ⟨w.heap.size + 1 + 1, 2, none⟩) HLE.out _).setCell (p := ⟨w.heap.size + 1 + 1, 3, none⟩) HLE.out _).setCell (p := ⟨w.heap.size + 1 + 1, 4, none⟩) HLE.out _)) ?_
  intro V hC hW
  have k0 : V.cell? ⟨w.heap.size + 1 + 1, 0, none⟩ = some (.int .i64 t) := hC.c 0 rfl
  have k1 : V.cell? ⟨w.heap.size + 1 + 1, 1, none⟩ = some (.slice sa L.length sc) := hC.c 1 rfl
  have k2 : V.cell? ⟨w.heap.size + 1 + 1, 2, none⟩ = some (.int .i64 f) := hC.c 2 rfl
  have k3 : V.cell? ⟨w.heap.size + 1 + 1, 3, none⟩ = some (.slice va l.length vc) := hC.c 3 rfl
  have k4 : V.cell? ⟨w.heap.size + 1 + 1, 4, none⟩ = some (.int .i64 dn) := hC.c 4 rfl
  exact bodyPost_ret (v := .tuple #[.agg #[.int .i64 t, .slice sa L.length sc, .int .i64 f, .slice va l.length vc, .int .i64 dn], .bool false, .int .i64 1]) (by simp [results, Try.results14, go_sem, k0, k1, k2, k3, k4]) rfl ⟨sc, vc, sa, va, rfl, HCP.out, HS.out.step hW, HV.out.step hW, hW⟩
set_option maxRecDepth 100000 in
set_option maxHeartbeats 8000000 in
theorem rreceive_norv (t f dn a b c d : Int) (sa va : Option Addr) (sc vc : Nat) (L : List Bool) (l : List Int) (w : World) (hs : BosAt w (.slice sa L.length sc) L) (hc : L.length ≤ sc) (hv : IntsAt w (.slice va l.length vc) l) (hwf : WF t L) (hrv : rvB f l dn = false) :
    Calls Try.prog 14 #[.agg #[.int .i64 t, .slice sa L.length sc, .int .i64 f, .slice va l.length vc, .int .i64 dn], .agg #[.int .i64 a, .int .i64 b, .int .i64 c, .int .i64 d]] w (RrP w t L f l.length l dn false 1) := by
  have HS := Lib.hid hs
  have HV := Lib.hid hv
  have HCP := Lib.hid hc
  clear hs hv hc
  have HWF := Lib.hid hwf
  have HRV := Lib.hid hrv
  clear hwf hrv
  have H0 := Lib.hid (Below.refl w.heap.size w)
  have H1 := Lib.hid (keep2 (al w (.cells #[.int .i64 t, .slice sa L.length sc, .int .i64 f, .slice va l.length vc, .int .i64 dn] 30)) H0.out)
  clear H0
  have H2 := Lib.hid (Cs.new w (w.heap.size) #[.int .i64 t, .slice sa L.length sc, .int .i64 f, .slice va l.length vc, .int .i64 dn] 30 (by simp))
  have H3 := Lib.hid (H2.out.step (al (w.alloc (.cells #[.int .i64 t, .slice sa L.length sc, .int .i64 f, .slice va l.length vc, .int .i64 dn] 30)) (.cells #[.int .i64 a, .int .i64 b, .int .i64 c, .int .i64 d] 32)))
  clear H2
  have H4 := Lib.hid (keep2 (al (w.alloc (.cells #[.int .i64 t, .slice sa L.length sc, .int .i64 f, .slice va l.length vc, .int .i64 dn] 30)) (.cells #[.int .i64 a, .int .i64 b, .int .i64 c, .int .i64 d] 32)) H1.out)
  clear H1
  have H5 := Lib.hid (Cs.new (w.alloc (.cells #[.int .i64 t, .slice sa L.length sc, .int .i64 f, .slice va l.length vc, .int .i64 dn] 30)) (w.heap.size + 1) #[.int .i64 a, .int .i64 b, .int .i64 c, .int .i64 d] 32 (by simp))
  have H6 := Lib.hid (H3.out.step (al ((w.alloc (.cells #[.int .i64 t, .slice sa L.length sc, .int .i64 f, .slice va l.length vc, .int .i64 dn] 30)).alloc (.cells #[.int .i64 a, .int .i64 b, .int .i64 c, .int .i64 d] 32)) (.cells #[.int .i64 0, .slice none 0 0, .int .i64 0, .slice none 0 0, .int .i64 0] 30)))
  clear H3
  have H7 := Lib.hid (H5.out.step (al ((w.alloc (.cells #[.int .i64 t, .slice sa L.length sc, .int .i64 f, .slice va l.length vc, .int .i64 dn] 30)).alloc (.cells #[.int .i64 a, .int .i64 b, .int .i64 c, .int .i64 d] 32)) (.cells #[.int .i64 0, .slice none 0 0, .int .i64 0, .slice none 0 0, .int .i64 0] 30)))
  clear H5
  have H8 := Lib.hid (keep2 (al ((w.alloc (.cells #[.int .i64 t, .slice sa L.length sc, .int .i64 f, .slice va l.length vc, .int .i64 dn] 30)).alloc (.cells #[.int .i64 a, .int .i64 b, .int .i64 c, .int .i64 d] 32)) (.cells #[.int .i64 0, .slice none 0 0, .int .i64 0, .slice none 0 0, .int .i64 0] 30)) H4.out)
  clear H4
  have H9 := Lib.hid (Cs.new ((w.alloc (.cells #[.int .i64 t, .slice sa L.length sc, .int .i64 f, .slice va l.length vc, .int .i64 dn] 30)).alloc (.cells #[.int .i64 a, .int .i64 b, .int .i64 c, .int .i64 d] 32)) (w.heap.size + 1 + 1) #[.int .i64 0, .slice none 0 0, .int .i64 0, .slice none 0 0, .int .i64 0] 30 (by simp))
  go_enter Try.func14, Try.ntmps14
  have xR0 : (((w.alloc (.cells #[.int .i64 t, .slice sa L.length sc, .int .i64 f, .slice va l.length vc, .int .i64 dn] 30)).alloc (.cells #[.int .i64 a, .int .i64 b, .int .i64 c, .int .i64 d] 32)).alloc (.cells #[.int .i64 0, .slice none 0 0, .int .i64 0, .slice none 0 0, .int .i64 0] 30)).cell? ⟨(w.heap.size), 0, none⟩ = some (.int .i64 t) := H6.out.c 0 rfl
  have xR1 : (((w.alloc (.cells #[.int .i64 t, .slice sa L.length sc, .int .i64 f, .slice va l.length vc, .int .i64 dn] 30)).alloc (.cells #[.int .i64 a, .int .i64 b, .int .i64 c, .int .i64 d] 32)).alloc (.cells #[.int .i64 0, .slice none 0 0, .int .i64 0, .slice none 0 0, .int .i64 0] 30)).cell? ⟨(w.heap.size), 1, none⟩ = some (.slice sa L.length sc) := H6.out.c 1 rfl
  have xR2 : (((w.alloc (.cells #[.int .i64 t, .slice sa L.length sc, .int .i64 f, .slice va l.length vc, .int .i64 dn] 30)).alloc (.cells #[.int .i64 a, .int .i64 b, .int .i64 c, .int .i64 d] 32)).alloc (.cells #[.int .i64 0, .slice none 0 0, .int .i64 0, .slice none 0 0, .int .i64 0] 30)).cell? ⟨(w.heap.size), 2, none⟩ = some (.int .i64 f) := H6.out.c 2 rfl
  have xR3 : (((w.alloc (.cells #[.int .i64 t, .slice sa L.length sc, .int .i64 f, .slice va l.length vc, .int .i64 dn] 30)).alloc (.cells #[.int .i64 a, .int .i64 b, .int .i64 c, .int .i64 d] 32)).alloc (.cells #[.int .i64 0, .slice none 0 0, .int .i64 0, .slice none 0 0, .int .i64 0] 30)).cell? ⟨(w.heap.size), 3, none⟩ = some (.slice va l.length vc) := H6.out.c 3 rfl
  have xR4 : (((w.alloc (.cells #[.int .i64 t, .slice sa L.length sc, .int .i64 f, .slice va l.length vc, .int .i64 dn] 30)).alloc (.cells #[.int .i64 a, .int .i64 b, .int .i64 c, .int .i64 d] 32)).alloc (.cells #[.int .i64 0, .slice none 0 0, .int .i64 0, .slice none 0 0, .int .i64 0] 30)).cell? ⟨(w.heap.size), 4, none⟩ = some (.int .i64 dn) := H6.out.c 4 rfl
  have zR : (w.heap.size) < (((w.alloc (.cells #[.int .i64 t, .slice sa L.length sc, .int .i64 f, .slice va l.length vc, .int .i64 dn] 30)).alloc (.cells #[.int .i64 a, .int .i64 b, .int .i64 c, .int .i64 d] 32)).alloc (.cells #[.int .i64 0, .slice none 0 0, .int .i64 0, .slice none 0 0, .int .i64 0] 30)).heap.size := H6.out.2.2
  go_wp2_with fail
  refine (rrecv_win t f dn sa va sc vc L l _ (HS.out.step H8.out) HCP.out (HV.out.step H8.out) HWF.out _ HRV.out).mono ?_
  rintro e u1 ⟨rfl, b1⟩
  clear xR0 xR1 xR2 xR3 xR4 zR
  have H10 := Lib.hid (H6.out.step b1)
  clear H6
  have H11 := Lib.hid (H7.out.step b1)
  clear H7
  have H12 := Lib.hid (H9.out.step b1)
  clear H9
  have H13 := Lib.hid (keep2 b1 H8.out)
  clear H8
  clear b1
  have xR0 : u1.cell? ⟨(w.heap.size), 0, none⟩ = some (.int .i64 t) := H10.out.c 0 rfl
  have xR1 : u1.cell? ⟨(w.heap.size), 1, none⟩ = some (.slice sa L.length sc) := H10.out.c 1 rfl
  have xR2 : u1.cell? ⟨(w.heap.size), 2, none⟩ = some (.int .i64 f) := H10.out.c 2 rfl
  have xR3 : u1.cell? ⟨(w.heap.size), 3, none⟩ = some (.slice va l.length vc) := H10.out.c 3 rfl
  have xR4 : u1.cell? ⟨(w.heap.size), 4, none⟩ = some (.int .i64 dn) := H10.out.c 4 rfl
  have zR : (w.heap.size) < u1.heap.size := H10.out.2.2
  have xO0 : u1.cell? ⟨(w.heap.size + 1), 0, none⟩ = some (.int .i64 a) := H11.out.c 0 rfl
  have xO1 : u1.cell? ⟨(w.heap.size + 1), 1, none⟩ = some (.int .i64 b) := H11.out.c 1 rfl
  have xO2 : u1.cell? ⟨(w.heap.size + 1), 2, none⟩ = some (.int .i64 c) := H11.out.c 2 rfl
  have xO3 : u1.cell? ⟨(w.heap.size + 1), 3, none⟩ = some (.int .i64 d) := H11.out.c 3 rfl
  have zO : (w.heap.size + 1) < u1.heap.size := H11.out.2.2
  have xZ0 : u1.cell? ⟨(w.heap.size + 1 + 1), 0, none⟩ = some (.int .i64 0) := H12.out.c 0 rfl
  have xZ1 : u1.cell? ⟨(w.heap.size + 1 + 1), 1, none⟩ = some (.slice none 0 0) := H12.out.c 1 rfl
  have xZ2 : u1.cell? ⟨(w.heap.size + 1 + 1), 2, none⟩ = some (.int .i64 0) := H12.out.c 2 rfl
  have xZ3 : u1.cell? ⟨(w.heap.size + 1 + 1), 3, none⟩ = some (.slice none 0 0) := H12.out.c 3 rfl
  have xZ4 : u1.cell? ⟨(w.heap.size + 1 + 1), 4, none⟩ = some (.int .i64 0) := H12.out.c 4 rfl
  have zZ : (w.heap.size + 1 + 1) < u1.heap.size := H12.out.2.2
  have yz0 : u1.frozen? ⟨w.heap.size + 1 + 1, 0, none⟩ = false := H12.out.f 0 (by simp)
  have yz1 : u1.frozen? ⟨w.heap.size + 1 + 1, 1, none⟩ = false := H12.out.f 1 (by simp)
  have yz2 : u1.frozen? ⟨w.heap.size + 1 + 1, 2, none⟩ = false := H12.out.f 2 (by simp)
  have yz3 : u1.frozen? ⟨w.heap.size + 1 + 1, 3, none⟩ = false := H12.out.f 3 (by simp)
  have yz4 : u1.frozen? ⟨w.heap.size + 1 + 1, 4, none⟩ = false := H12.out.f 4 (by simp)
  go_wp2_with fail
  have HLE := Lib.hid (show w.heap.size ≤ w.heap.size + 1 + 1 by omega)
  refine (fun (h : ∀ V : World, Cs V (w.heap.size + 1 + 1) #[.int .i64 t, .slice sa L.length sc, .int .i64 f, .slice va l.length vc, .int .i64 dn] → Below w.heap.size w V → bodyPost Try.prog Try.f14 _ Exit.ret _ V) => h _ (Cs.set (Cs.set (Cs.set (Cs.set (Cs.set (H12.out) 0 (by simp) (.int .i64 t) (vs' := #[.int .i64 t, .slice none 0 0, .int .i64 0, .slice none 0 0, .int .i64 0]) rfl) 1 (by simp) (.slice sa L.length sc) (vs' := #[.int .i64 t, .slice sa L.length sc, .int .i64 0, .slice none 0 0, .int .i64 0]) rfl) 2 (by simp) (.int .i64 f) (vs' := #[.int .i64 t, .slice sa L.length sc, .int .i64 f, .slice none 0 0, .int .i64 0]) rfl) 3 (by simp) (.slice va l.length vc) (vs' := #[.int .i64 t, .slice sa L.length sc, .int .i64 f, .slice va l.length vc, .int .i64 0]) rfl) 4 (by simp) (.int .i64 dn) (vs' := #[.int .i64 t, .slice sa L.length sc, .int .i64 f, .slice va l.length vc, .int .i64 dn]) rfl) ((((((H13.out).setCell (p := ⟨w.heap.size + 1 + 1, 0, none⟩) HLE.out _).setCell (p := ⟨w.heap.size + 1 + 1, 1, none⟩) HLE.out _).setCell (p := ⟨w.heap.size + 1 + 1, 2, none⟩) HLE.out _).setCell (p := ⟨w.heap.size + 1 + 1, 3, none⟩) HLE.out _).setCell (p := ⟨w.heap.size + 1 + 1, 4, none⟩) HLE.out _)) ?_
  intro V hC hW
  have k0 : V.cell? ⟨w.heap.size + 1 + 1, 0, none⟩ = some (.int .i64 t) := hC.c 0 rfl
  have k1 : V.cell? ⟨w.heap.size + 1 + 1, 1, none⟩ = some (.slice sa L.length sc) := hC.c 1 rfl
  have k2 : V.cell? ⟨w.heap.size + 1 + 1, 2, none⟩ = some (.int .i64 f) := hC.c 2 rfl
  have k3 : V.cell? ⟨w.heap.size + 1 + 1, 3, none⟩ = some (.slice va l.length vc) := hC.c 3 rfl
  have k4 : V.cell? ⟨w.heap.size + 1 + 1, 4, none⟩ = some (.int .i64 dn) := hC.c 4 rfl
  exact bodyPost_ret (v := .tuple #[.agg #[.int .i64 t, .slice sa L.length sc, .int .i64 f, .slice va l.length vc, .int .i64 dn], .bool false, .int .i64 1]) (by simp [results, Try.results14, go_sem, k0, k1, k2, k3, k4]) rfl ⟨sc, vc, sa, va, rfl, HCP.out, HS.out.step hW, HV.out.step hW, hW⟩
set_option maxRecDepth 100000 in
set_option maxHeartbeats 8000000 in
theorem rreceive_noord (t f dn a b c d : Int) (sa va : Option Addr) (sc vc : Nat) (L : List Bool) (l : List Int) (w : World) (hs : BosAt w (.slice sa L.length sc) L) (hc : L.length ≤ sc) (hv : IntsAt w (.slice va l.length vc) l) (hwf : WF t L) (hrv : rvB f l dn = true) (hop : orB a b c d = false) :
    Calls Try.prog 14 #[.agg #[.int .i64 t, .slice sa L.length sc, .int .i64 f, .slice va l.length vc, .int .i64 dn], .agg #[.int .i64 a, .int .i64 b, .int .i64 c, .int .i64 d]] w (RrP w t L f l.length l dn false 1) := by
  have HS := Lib.hid hs
  have HV := Lib.hid hv
  have HCP := Lib.hid hc
  clear hs hv hc
  have HWF := Lib.hid hwf
  have HRV := Lib.hid hrv
  clear hwf hrv
  have HOP := Lib.hid hop
  clear hop
  have H0 := Lib.hid (Below.refl w.heap.size w)
  have H1 := Lib.hid (keep2 (al w (.cells #[.int .i64 t, .slice sa L.length sc, .int .i64 f, .slice va l.length vc, .int .i64 dn] 30)) H0.out)
  clear H0
  have H2 := Lib.hid (Cs.new w (w.heap.size) #[.int .i64 t, .slice sa L.length sc, .int .i64 f, .slice va l.length vc, .int .i64 dn] 30 (by simp))
  have H3 := Lib.hid (H2.out.step (al (w.alloc (.cells #[.int .i64 t, .slice sa L.length sc, .int .i64 f, .slice va l.length vc, .int .i64 dn] 30)) (.cells #[.int .i64 a, .int .i64 b, .int .i64 c, .int .i64 d] 32)))
  clear H2
  have H4 := Lib.hid (keep2 (al (w.alloc (.cells #[.int .i64 t, .slice sa L.length sc, .int .i64 f, .slice va l.length vc, .int .i64 dn] 30)) (.cells #[.int .i64 a, .int .i64 b, .int .i64 c, .int .i64 d] 32)) H1.out)
  clear H1
  have H5 := Lib.hid (Cs.new (w.alloc (.cells #[.int .i64 t, .slice sa L.length sc, .int .i64 f, .slice va l.length vc, .int .i64 dn] 30)) (w.heap.size + 1) #[.int .i64 a, .int .i64 b, .int .i64 c, .int .i64 d] 32 (by simp))
  have H6 := Lib.hid (H3.out.step (al ((w.alloc (.cells #[.int .i64 t, .slice sa L.length sc, .int .i64 f, .slice va l.length vc, .int .i64 dn] 30)).alloc (.cells #[.int .i64 a, .int .i64 b, .int .i64 c, .int .i64 d] 32)) (.cells #[.int .i64 0, .slice none 0 0, .int .i64 0, .slice none 0 0, .int .i64 0] 30)))
  clear H3
  have H7 := Lib.hid (H5.out.step (al ((w.alloc (.cells #[.int .i64 t, .slice sa L.length sc, .int .i64 f, .slice va l.length vc, .int .i64 dn] 30)).alloc (.cells #[.int .i64 a, .int .i64 b, .int .i64 c, .int .i64 d] 32)) (.cells #[.int .i64 0, .slice none 0 0, .int .i64 0, .slice none 0 0, .int .i64 0] 30)))
  clear H5
  have H8 := Lib.hid (keep2 (al ((w.alloc (.cells #[.int .i64 t, .slice sa L.length sc, .int .i64 f, .slice va l.length vc, .int .i64 dn] 30)).alloc (.cells #[.int .i64 a, .int .i64 b, .int .i64 c, .int .i64 d] 32)) (.cells #[.int .i64 0, .slice none 0 0, .int .i64 0, .slice none 0 0, .int .i64 0] 30)) H4.out)
  clear H4
  have H9 := Lib.hid (Cs.new ((w.alloc (.cells #[.int .i64 t, .slice sa L.length sc, .int .i64 f, .slice va l.length vc, .int .i64 dn] 30)).alloc (.cells #[.int .i64 a, .int .i64 b, .int .i64 c, .int .i64 d] 32)) (w.heap.size + 1 + 1) #[.int .i64 0, .slice none 0 0, .int .i64 0, .slice none 0 0, .int .i64 0] 30 (by simp))
  go_enter Try.func14, Try.ntmps14
  have xR0 : (((w.alloc (.cells #[.int .i64 t, .slice sa L.length sc, .int .i64 f, .slice va l.length vc, .int .i64 dn] 30)).alloc (.cells #[.int .i64 a, .int .i64 b, .int .i64 c, .int .i64 d] 32)).alloc (.cells #[.int .i64 0, .slice none 0 0, .int .i64 0, .slice none 0 0, .int .i64 0] 30)).cell? ⟨(w.heap.size), 0, none⟩ = some (.int .i64 t) := H6.out.c 0 rfl
  have xR1 : (((w.alloc (.cells #[.int .i64 t, .slice sa L.length sc, .int .i64 f, .slice va l.length vc, .int .i64 dn] 30)).alloc (.cells #[.int .i64 a, .int .i64 b, .int .i64 c, .int .i64 d] 32)).alloc (.cells #[.int .i64 0, .slice none 0 0, .int .i64 0, .slice none 0 0, .int .i64 0] 30)).cell? ⟨(w.heap.size), 1, none⟩ = some (.slice sa L.length sc) := H6.out.c 1 rfl
  have xR2 : (((w.alloc (.cells #[.int .i64 t, .slice sa L.length sc, .int .i64 f, .slice va l.length vc, .int .i64 dn] 30)).alloc (.cells #[.int .i64 a, .int .i64 b, .int .i64 c, .int .i64 d] 32)).alloc (.cells #[.int .i64 0, .slice none 0 0, .int .i64 0, .slice none 0 0, .int .i64 0] 30)).cell? ⟨(w.heap.size), 2, none⟩ = some (.int .i64 f) := H6.out.c 2 rfl
  have xR3 : (((w.alloc (.cells #[.int .i64 t, .slice sa L.length sc, .int .i64 f, .slice va l.length vc, .int .i64 dn] 30)).alloc (.cells #[.int .i64 a, .int .i64 b, .int .i64 c, .int .i64 d] 32)).alloc (.cells #[.int .i64 0, .slice none 0 0, .int .i64 0, .slice none 0 0, .int .i64 0] 30)).cell? ⟨(w.heap.size), 3, none⟩ = some (.slice va l.length vc) := H6.out.c 3 rfl
  have xR4 : (((w.alloc (.cells #[.int .i64 t, .slice sa L.length sc, .int .i64 f, .slice va l.length vc, .int .i64 dn] 30)).alloc (.cells #[.int .i64 a, .int .i64 b, .int .i64 c, .int .i64 d] 32)).alloc (.cells #[.int .i64 0, .slice none 0 0, .int .i64 0, .slice none 0 0, .int .i64 0] 30)).cell? ⟨(w.heap.size), 4, none⟩ = some (.int .i64 dn) := H6.out.c 4 rfl
  have zR : (w.heap.size) < (((w.alloc (.cells #[.int .i64 t, .slice sa L.length sc, .int .i64 f, .slice va l.length vc, .int .i64 dn] 30)).alloc (.cells #[.int .i64 a, .int .i64 b, .int .i64 c, .int .i64 d] 32)).alloc (.cells #[.int .i64 0, .slice none 0 0, .int .i64 0, .slice none 0 0, .int .i64 0] 30)).heap.size := H6.out.2.2
  go_wp2_with fail
  refine (rrecv_win t f dn sa va sc vc L l _ (HS.out.step H8.out) HCP.out (HV.out.step H8.out) HWF.out _ HRV.out).mono ?_
  rintro e u1 ⟨rfl, b1⟩
  clear xR0 xR1 xR2 xR3 xR4 zR
  have H10 := Lib.hid (H6.out.step b1)
  clear H6
  have H11 := Lib.hid (H7.out.step b1)
  clear H7
  have H12 := Lib.hid (H9.out.step b1)
  clear H9
  have H13 := Lib.hid (keep2 b1 H8.out)
  clear H8
  clear b1
  have xO0 : u1.cell? ⟨(w.heap.size + 1), 0, none⟩ = some (.int .i64 a) := H11.out.c 0 rfl
  have xO1 : u1.cell? ⟨(w.heap.size + 1), 1, none⟩ = some (.int .i64 b) := H11.out.c 1 rfl
  have xO2 : u1.cell? ⟨(w.heap.size + 1), 2, none⟩ = some (.int .i64 c) := H11.out.c 2 rfl
  have xO3 : u1.cell? ⟨(w.heap.size + 1), 3, none⟩ = some (.int .i64 d) := H11.out.c 3 rfl
  have zO : (w.heap.size + 1) < u1.heap.size := H11.out.2.2
  have xR0 : u1.cell? ⟨(w.heap.size), 0, none⟩ = some (.int .i64 t) := H10.out.c 0 rfl
  have xR1 : u1.cell? ⟨(w.heap.size), 1, none⟩ = some (.slice sa L.length sc) := H10.out.c 1 rfl
  have xR2 : u1.cell? ⟨(w.heap.size), 2, none⟩ = some (.int .i64 f) := H10.out.c 2 rfl
  have xR3 : u1.cell? ⟨(w.heap.size), 3, none⟩ = some (.slice va l.length vc) := H10.out.c 3 rfl
  have xR4 : u1.cell? ⟨(w.heap.size), 4, none⟩ = some (.int .i64 dn) := H10.out.c 4 rfl
  have zR : (w.heap.size) < u1.heap.size := H10.out.2.2
  go_wp2_with fail
  refine (rorder_any a b c d _ HOP.out _).mono ?_
  rintro e u2 ⟨rfl, b2⟩
  clear xO0 xO1 xO2 xO3 zO xR0 xR1 xR2 xR3 xR4 zR
  have H14 := Lib.hid (H10.out.step b2)
  clear H10
  have H15 := Lib.hid (H11.out.step b2)
  clear H11
  have H16 := Lib.hid (H12.out.step b2)
  clear H12
  have H17 := Lib.hid (keep2 b2 H13.out)
  clear H13
  clear b2
  have xR0 : u2.cell? ⟨(w.heap.size), 0, none⟩ = some (.int .i64 t) := H14.out.c 0 rfl
  have xR1 : u2.cell? ⟨(w.heap.size), 1, none⟩ = some (.slice sa L.length sc) := H14.out.c 1 rfl
  have xR2 : u2.cell? ⟨(w.heap.size), 2, none⟩ = some (.int .i64 f) := H14.out.c 2 rfl
  have xR3 : u2.cell? ⟨(w.heap.size), 3, none⟩ = some (.slice va l.length vc) := H14.out.c 3 rfl
  have xR4 : u2.cell? ⟨(w.heap.size), 4, none⟩ = some (.int .i64 dn) := H14.out.c 4 rfl
  have zR : (w.heap.size) < u2.heap.size := H14.out.2.2
  have xO0 : u2.cell? ⟨(w.heap.size + 1), 0, none⟩ = some (.int .i64 a) := H15.out.c 0 rfl
  have xO1 : u2.cell? ⟨(w.heap.size + 1), 1, none⟩ = some (.int .i64 b) := H15.out.c 1 rfl
  have xO2 : u2.cell? ⟨(w.heap.size + 1), 2, none⟩ = some (.int .i64 c) := H15.out.c 2 rfl
  have xO3 : u2.cell? ⟨(w.heap.size + 1), 3, none⟩ = some (.int .i64 d) := H15.out.c 3 rfl
  have zO : (w.heap.size + 1) < u2.heap.size := H15.out.2.2
  have xZ0 : u2.cell? ⟨(w.heap.size + 1 + 1), 0, none⟩ = some (.int .i64 0) := H16.out.c 0 rfl
  have xZ1 : u2.cell? ⟨(w.heap.size + 1 + 1), 1, none⟩ = some (.slice none 0 0) := H16.out.c 1 rfl
  have xZ2 : u2.cell? ⟨(w.heap.size + 1 + 1), 2, none⟩ = some (.int .i64 0) := H16.out.c 2 rfl
  have xZ3 : u2.cell? ⟨(w.heap.size + 1 + 1), 3, none⟩ = some (.slice none 0 0) := H16.out.c 3 rfl
  have xZ4 : u2.cell? ⟨(w.heap.size + 1 + 1), 4, none⟩ = some (.int .i64 0) := H16.out.c 4 rfl
  have zZ : (w.heap.size + 1 + 1) < u2.heap.size := H16.out.2.2
  have yz0 : u2.frozen? ⟨w.heap.size + 1 + 1, 0, none⟩ = false := H16.out.f 0 (by simp)
  have yz1 : u2.frozen? ⟨w.heap.size + 1 + 1, 1, none⟩ = false := H16.out.f 1 (by simp)
  have yz2 : u2.frozen? ⟨w.heap.size + 1 + 1, 2, none⟩ = false := H16.out.f 2 (by simp)
  have yz3 : u2.frozen? ⟨w.heap.size + 1 + 1, 3, none⟩ = false := H16.out.f 3 (by simp)
  have yz4 : u2.frozen? ⟨w.heap.size + 1 + 1, 4, none⟩ = false := H16.out.f 4 (by simp)
  go_wp2_with fail
  have HLE := Lib.hid (show w.heap.size ≤ w.heap.size + 1 + 1 by omega)
  refine (fun (h : ∀ V : World, Cs V (w.heap.size + 1 + 1) #[.int .i64 t, .slice sa L.length sc, .int .i64 f, .slice va l.length vc, .int .i64 dn] → Below w.heap.size w V → bodyPost Try.prog Try.f14 _ Exit.ret _ V) => h _ (Cs.set (Cs.set (Cs.set (Cs.set (Cs.set (H16.out) 0 (by simp) (.int .i64 t) (vs' := #[.int .i64 t, .slice none 0 0, .int .i64 0, .slice none 0 0, .int .i64 0]) rfl) 1 (by simp) (.slice sa L.length sc) (vs' := #[.int .i64 t, .slice sa L.length sc, .int .i64 0, .slice none 0 0, .int .i64 0]) rfl) 2 (by simp) (.int .i64 f) (vs' := #[.int .i64 t, .slice sa L.length sc, .int .i64 f, .slice none 0 0, .int .i64 0]) rfl) 3 (by simp) (.slice va l.length vc) (vs' := #[.int .i64 t, .slice sa L.length sc, .int .i64 f, .slice va l.length vc, .int .i64 0]) rfl) 4 (by simp) (.int .i64 dn) (vs' := #[.int .i64 t, .slice sa L.length sc, .int .i64 f, .slice va l.length vc, .int .i64 dn]) rfl) ((((((H17.out).setCell (p := ⟨w.heap.size + 1 + 1, 0, none⟩) HLE.out _).setCell (p := ⟨w.heap.size + 1 + 1, 1, none⟩) HLE.out _).setCell (p := ⟨w.heap.size + 1 + 1, 2, none⟩) HLE.out _).setCell (p := ⟨w.heap.size + 1 + 1, 3, none⟩) HLE.out _).setCell (p := ⟨w.heap.size + 1 + 1, 4, none⟩) HLE.out _)) ?_
  intro V hC hW
  have k0 : V.cell? ⟨w.heap.size + 1 + 1, 0, none⟩ = some (.int .i64 t) := hC.c 0 rfl
  have k1 : V.cell? ⟨w.heap.size + 1 + 1, 1, none⟩ = some (.slice sa L.length sc) := hC.c 1 rfl
  have k2 : V.cell? ⟨w.heap.size + 1 + 1, 2, none⟩ = some (.int .i64 f) := hC.c 2 rfl
  have k3 : V.cell? ⟨w.heap.size + 1 + 1, 3, none⟩ = some (.slice va l.length vc) := hC.c 3 rfl
  have k4 : V.cell? ⟨w.heap.size + 1 + 1, 4, none⟩ = some (.int .i64 dn) := hC.c 4 rfl
  exact bodyPost_ret (v := .tuple #[.agg #[.int .i64 t, .slice sa L.length sc, .int .i64 f, .slice va l.length vc, .int .i64 dn], .bool false, .int .i64 1]) (by simp [results, Try.results14, go_sem, k0, k1, k2, k3, k4]) rfl ⟨sc, vc, sa, va, rfl, HCP.out, HS.out.step hW, HV.out.step hW, hW⟩
set_option maxRecDepth 100000 in
set_option maxHeartbeats 8000000 in
theorem rreceive_novar (t f dn a b c d : Int) (sa va : Option Addr) (sc vc : Nat) (L : List Bool) (l : List Int) (w : World) (hs : BosAt w (.slice sa L.length sc) L) (hc : L.length ≤ sc) (hv : IntsAt w (.slice va l.length vc) l) (hwf : WF t L) (hrv : rvB f l dn = true) (hop : orB a b c d = true) (hcl : ¬ c < l.length) :
    Calls Try.prog 14 #[.agg #[.int .i64 t, .slice sa L.length sc, .int .i64 f, .slice va l.length vc, .int .i64 dn], .agg #[.int .i64 a, .int .i64 b, .int .i64 c, .int .i64 d]] w (RrP w t L f l.length l dn false 1) := by
  have HS := Lib.hid hs
  have HV := Lib.hid hv
  have HCP := Lib.hid hc
  clear hs hv hc
  have HWF := Lib.hid hwf
  have HRV := Lib.hid hrv
  clear hwf hrv
  have HOP := Lib.hid hop
  clear hop
  have g1 : decide (c ≥ (l.length : Int)) = true := by simp; omega
  have g2 : decide ((l.length : Int) ≤ c) = true := by simp; omega
  clear hcl
  have H0 := Lib.hid (Below.refl w.heap.size w)
  have H1 := Lib.hid (keep2 (al w (.cells #[.int .i64 t, .slice sa L.length sc, .int .i64 f, .slice va l.length vc, .int .i64 dn] 30)) H0.out)
  clear H0
  have H2 := Lib.hid (Cs.new w (w.heap.size) #[.int .i64 t, .slice sa L.length sc, .int .i64 f, .slice va l.length vc, .int .i64 dn] 30 (by simp))
  have H3 := Lib.hid (H2.out.step (al (w.alloc (.cells #[.int .i64 t, .slice sa L.length sc, .int .i64 f, .slice va l.length vc, .int .i64 dn] 30)) (.cells #[.int .i64 a, .int .i64 b, .int .i64 c, .int .i64 d] 32)))
  clear H2
  have H4 := Lib.hid (keep2 (al (w.alloc (.cells #[.int .i64 t, .slice sa L.length sc, .int .i64 f, .slice va l.length vc, .int .i64 dn] 30)) (.cells #[.int .i64 a, .int .i64 b, .int .i64 c, .int .i64 d] 32)) H1.out)
  clear H1
  have H5 := Lib.hid (Cs.new (w.alloc (.cells #[.int .i64 t, .slice sa L.length sc, .int .i64 f, .slice va l.length vc, .int .i64 dn] 30)) (w.heap.size + 1) #[.int .i64 a, .int .i64 b, .int .i64 c, .int .i64 d] 32 (by simp))
  have H6 := Lib.hid (H3.out.step (al ((w.alloc (.cells #[.int .i64 t, .slice sa L.length sc, .int .i64 f, .slice va l.length vc, .int .i64 dn] 30)).alloc (.cells #[.int .i64 a, .int .i64 b, .int .i64 c, .int .i64 d] 32)) (.cells #[.int .i64 0, .slice none 0 0, .int .i64 0, .slice none 0 0, .int .i64 0] 30)))
  clear H3
  have H7 := Lib.hid (H5.out.step (al ((w.alloc (.cells #[.int .i64 t, .slice sa L.length sc, .int .i64 f, .slice va l.length vc, .int .i64 dn] 30)).alloc (.cells #[.int .i64 a, .int .i64 b, .int .i64 c, .int .i64 d] 32)) (.cells #[.int .i64 0, .slice none 0 0, .int .i64 0, .slice none 0 0, .int .i64 0] 30)))
  clear H5
  have H8 := Lib.hid (keep2 (al ((w.alloc (.cells #[.int .i64 t, .slice sa L.length sc, .int .i64 f, .slice va l.length vc, .int .i64 dn] 30)).alloc (.cells #[.int .i64 a, .int .i64 b, .int .i64 c, .int .i64 d] 32)) (.cells #[.int .i64 0, .slice none 0 0, .int .i64 0, .slice none 0 0, .int .i64 0] 30)) H4.out)
  clear H4
  have H9 := Lib.hid (Cs.new ((w.alloc (.cells #[.int .i64 t, .slice sa L.length sc, .int .i64 f, .slice va l.length vc, .int .i64 dn] 30)).alloc (.cells #[.int .i64 a, .int .i64 b, .int .i64 c, .int .i64 d] 32)) (w.heap.size + 1 + 1) #[.int .i64 0, .slice none 0 0, .int .i64 0, .slice none 0 0, .int .i64 0] 30 (by simp))
  go_enter Try.func14, Try.ntmps14
  have xR0 : (((w.alloc (.cells #[.int .i64 t, .slice sa L.length sc, .int .i64 f, .slice va l.length vc, .int .i64 dn] 30)).alloc (.cells #[.int .i64 a, .int .i64 b, .int .i64 c, .int .i64 d] 32)).alloc (.cells #[.int .i64 0, .slice none 0 0, .int .i64 0, .slice none 0 0, .int .i64 0] 30)).cell? ⟨(w.heap.size), 0, none⟩ = some (.int .i64 t) := H6.out.c 0 rfl
  have xR1 : (((w.alloc (.cells #[.int .i64 t, .slice sa L.length sc, .int .i64 f, .slice va l.length vc, .int .i64 dn] 30)).alloc (.cells #[.int .i64 a, .int .i64 b, .int .i64 c, .int .i64 d] 32)).alloc (.cells #[.int .i64 0, .slice none 0 0, .int .i64 0, .slice none 0 0, .int .i64 0] 30)).cell? ⟨(w.heap.size), 1, none⟩ = some (.slice sa L.length sc) := H6.out.c 1 rfl
  have xR2 : (((w.alloc (.cells #[.int .i64 t, .slice sa L.length sc, .int .i64 f, .slice va l.length vc, .int .i64 dn] 30)).alloc (.cells #[.int .i64 a, .int .i64 b, .int .i64 c, .int .i64 d] 32)).alloc (.cells #[.int .i64 0, .slice none 0 0, .int .i64 0, .slice none 0 0, .int .i64 0] 30)).cell? ⟨(w.heap.size), 2, none⟩ = some (.int .i64 f) := H6.out.c 2 rfl
  have xR3 : (((w.alloc (.cells #[.int .i64 t, .slice sa L.length sc, .int .i64 f, .slice va l.length vc, .int .i64 dn] 30)).alloc (.cells #[.int .i64 a, .int .i64 b, .int .i64 c, .int .i64 d] 32)).alloc (.cells #[.int .i64 0, .slice none 0 0, .int .i64 0, .slice none 0 0, .int .i64 0] 30)).cell? ⟨(w.heap.size), 3, none⟩ = some (.slice va l.length vc) := H6.out.c 3 rfl
  have xR4 : (((w.alloc (.cells #[.int .i64 t, .slice sa L.length sc, .int .i64 f, .slice va l.length vc, .int .i64 dn] 30)).alloc (.cells #[.int .i64 a, .int .i64 b, .int .i64 c, .int .i64 d] 32)).alloc (.cells #[.int .i64 0, .slice none 0 0, .int .i64 0, .slice none 0 0, .int .i64 0] 30)).cell? ⟨(w.heap.size), 4, none⟩ = some (.int .i64 dn) := H6.out.c 4 rfl
  have zR : (w.heap.size) < (((w.alloc (.cells #[.int .i64 t, .slice sa L.length sc, .int .i64 f, .slice va l.length vc, .int .i64 dn] 30)).alloc (.cells #[.int .i64 a, .int .i64 b, .int .i64 c, .int .i64 d] 32)).alloc (.cells #[.int .i64 0, .slice none 0 0, .int .i64 0, .slice none 0 0, .int .i64 0] 30)).heap.size := H6.out.2.2
  go_wp2_with fail
  refine (rrecv_win t f dn sa va sc vc L l _ (HS.out.step H8.out) HCP.out (HV.out.step H8.out) HWF.out _ HRV.out).mono ?_
  rintro e u1 ⟨rfl, b1⟩
  clear xR0 xR1 xR2 xR3 xR4 zR
  have H10 := Lib.hid (H6.out.step b1)
  clear H6
  have H11 := Lib.hid (H7.out.step b1)
  clear H7
  have H12 := Lib.hid (H9.out.step b1)
  clear H9
  have H13 := Lib.hid (keep2 b1 H8.out)
  clear H8
  clear b1
  have xO0 : u1.cell? ⟨(w.heap.size + 1), 0, none⟩ = some (.int .i64 a) := H11.out.c 0 rfl
  have xO1 : u1.cell? ⟨(w.heap.size + 1), 1, none⟩ = some (.int .i64 b) := H11.out.c 1 rfl
  have xO2 : u1.cell? ⟨(w.heap.size + 1), 2, none⟩ = some (.int .i64 c) := H11.out.c 2 rfl
  have xO3 : u1.cell? ⟨(w.heap.size + 1), 3, none⟩ = some (.int .i64 d) := H11.out.c 3 rfl
  have zO : (w.heap.size + 1) < u1.heap.size := H11.out.2.2
  have xR0 : u1.cell? ⟨(w.heap.size), 0, none⟩ = some (.int .i64 t) := H10.out.c 0 rfl
  have xR1 : u1.cell? ⟨(w.heap.size), 1, none⟩ = some (.slice sa L.length sc) := H10.out.c 1 rfl
  have xR2 : u1.cell? ⟨(w.heap.size), 2, none⟩ = some (.int .i64 f) := H10.out.c 2 rfl
  have xR3 : u1.cell? ⟨(w.heap.size), 3, none⟩ = some (.slice va l.length vc) := H10.out.c 3 rfl
  have xR4 : u1.cell? ⟨(w.heap.size), 4, none⟩ = some (.int .i64 dn) := H10.out.c 4 rfl
  have zR : (w.heap.size) < u1.heap.size := H10.out.2.2
  go_wp2_with fail
  refine (rorder_any a b c d _ HOP.out _).mono ?_
  rintro e u2 ⟨rfl, b2⟩
  clear xO0 xO1 xO2 xO3 zO xR0 xR1 xR2 xR3 xR4 zR
  have H14 := Lib.hid (H10.out.step b2)
  clear H10
  have H15 := Lib.hid (H11.out.step b2)
  clear H11
  have H16 := Lib.hid (H12.out.step b2)
  clear H12
  have H17 := Lib.hid (keep2 b2 H13.out)
  clear H13
  clear b2
  have xR0 : u2.cell? ⟨(w.heap.size), 0, none⟩ = some (.int .i64 t) := H14.out.c 0 rfl
  have xR1 : u2.cell? ⟨(w.heap.size), 1, none⟩ = some (.slice sa L.length sc) := H14.out.c 1 rfl
  have xR2 : u2.cell? ⟨(w.heap.size), 2, none⟩ = some (.int .i64 f) := H14.out.c 2 rfl
  have xR3 : u2.cell? ⟨(w.heap.size), 3, none⟩ = some (.slice va l.length vc) := H14.out.c 3 rfl
  have xR4 : u2.cell? ⟨(w.heap.size), 4, none⟩ = some (.int .i64 dn) := H14.out.c 4 rfl
  have zR : (w.heap.size) < u2.heap.size := H14.out.2.2
  have xO0 : u2.cell? ⟨(w.heap.size + 1), 0, none⟩ = some (.int .i64 a) := H15.out.c 0 rfl
  have xO1 : u2.cell? ⟨(w.heap.size + 1), 1, none⟩ = some (.int .i64 b) := H15.out.c 1 rfl
  have xO2 : u2.cell? ⟨(w.heap.size + 1), 2, none⟩ = some (.int .i64 c) := H15.out.c 2 rfl
  have xO3 : u2.cell? ⟨(w.heap.size + 1), 3, none⟩ = some (.int .i64 d) := H15.out.c 3 rfl
  have zO : (w.heap.size + 1) < u2.heap.size := H15.out.2.2
  have xZ0 : u2.cell? ⟨(w.heap.size + 1 + 1), 0, none⟩ = some (.int .i64 0) := H16.out.c 0 rfl
  have xZ1 : u2.cell? ⟨(w.heap.size + 1 + 1), 1, none⟩ = some (.slice none 0 0) := H16.out.c 1 rfl
  have xZ2 : u2.cell? ⟨(w.heap.size + 1 + 1), 2, none⟩ = some (.int .i64 0) := H16.out.c 2 rfl
  have xZ3 : u2.cell? ⟨(w.heap.size + 1 + 1), 3, none⟩ = some (.slice none 0 0) := H16.out.c 3 rfl
  have xZ4 : u2.cell? ⟨(w.heap.size + 1 + 1), 4, none⟩ = some (.int .i64 0) := H16.out.c 4 rfl
  have zZ : (w.heap.size + 1 + 1) < u2.heap.size := H16.out.2.2
  have yz0 : u2.frozen? ⟨w.heap.size + 1 + 1, 0, none⟩ = false := H16.out.f 0 (by simp)
  have yz1 : u2.frozen? ⟨w.heap.size + 1 + 1, 1, none⟩ = false := H16.out.f 1 (by simp)
  have yz2 : u2.frozen? ⟨w.heap.size + 1 + 1, 2, none⟩ = false := H16.out.f 2 (by simp)
  have yz3 : u2.frozen? ⟨w.heap.size + 1 + 1, 3, none⟩ = false := H16.out.f 3 (by simp)
  have yz4 : u2.frozen? ⟨w.heap.size + 1 + 1, 4, none⟩ = false := H16.out.f 4 (by simp)
  go_wp2_with fail
  have HLE := Lib.hid (show w.heap.size ≤ w.heap.size + 1 + 1 by omega)
  refine (fun (h : ∀ V : World, Cs V (w.heap.size + 1 + 1) #[.int .i64 t, .slice sa L.length sc, .int .i64 f, .slice va l.length vc, .int .i64 dn] → Below w.heap.size w V → bodyPost Try.prog Try.f14 _ Exit.ret _ V) => h _ (Cs.set (Cs.set (Cs.set (Cs.set (Cs.set (H16.out) 0 (by simp) (.int .i64 t) (vs' := #[.int .i64 t, .slice none 0 0, .int .i64 0, .slice none 0 0, .int .i64 0]) rfl) 1 (by simp) (.slice sa L.length sc) (vs' := #[.int .i64 t, .slice sa L.length sc, .int .i64 0, .slice none 0 0, .int .i64 0]) rfl) 2 (by simp) (.int .i64 f) (vs' := #[.int .i64 t, .slice sa L.length sc, .int .i64 f, .slice none 0 0, .int .i64 0]) rfl) 3 (by simp) (.slice va l.length vc) (vs' := #[.int .i64 t, .slice sa L.length sc, .int .i64 f, .slice va l.length vc, .int .i64 0]) rfl) 4 (by simp) (.int .i64 dn) (vs' := #[.int .i64 t, .slice sa L.length sc, .int .i64 f, .slice va l.length vc, .int .i64 dn]) rfl) ((((((H17.out).setCell (p := ⟨w.heap.size + 1 + 1, 0, none⟩) HLE.out _).setCell (p := ⟨w.heap.size + 1 + 1, 1, none⟩) HLE.out _).setCell (p := ⟨w.heap.size + 1 + 1, 2, none⟩) HLE.out _).setCell (p := ⟨w.heap.size + 1 + 1, 3, none⟩) HLE.out _).setCell (p := ⟨w.heap.size + 1 + 1, 4, none⟩) HLE.out _)) ?_
  intro V hC hW
  have k0 : V.cell? ⟨w.heap.size + 1 + 1, 0, none⟩ = some (.int .i64 t) := hC.c 0 rfl
  have k1 : V.cell? ⟨w.heap.size + 1 + 1, 1, none⟩ = some (.slice sa L.length sc) := hC.c 1 rfl
  have k2 : V.cell? ⟨w.heap.size + 1 + 1, 2, none⟩ = some (.int .i64 f) := hC.c 2 rfl
  have k3 : V.cell? ⟨w.heap.size + 1 + 1, 3, none⟩ = some (.slice va l.length vc) := hC.c 3 rfl
  have k4 : V.cell? ⟨w.heap.size + 1 + 1, 4, none⟩ = some (.int .i64 dn) := hC.c 4 rfl
  exact bodyPost_ret (v := .tuple #[.agg #[.int .i64 t, .slice sa L.length sc, .int .i64 f, .slice va l.length vc, .int .i64 dn], .bool false, .int .i64 1]) (by simp [results, Try.results14, go_sem, k0, k1, k2, k3, k4]) rfl ⟨sc, vc, sa, va, rfl, HCP.out, HS.out.step hW, HV.out.step hW, hW⟩
set_option maxRecDepth 100000 in
set_option maxHeartbeats 8000000 in
theorem rreceive_old (t f dn a b c d : Int) (sa va : Option Addr) (sc vc : Nat) (L : List Bool) (l : List Int) (w : World) (hs : BosAt w (.slice sa L.length sc) L) (hc : L.length ≤ sc) (hv : IntsAt w (.slice va l.length vc) l) (hwf : WF t L) (hrv : rvB f l dn = true) (hop : orB a b c d = true) (hcl : c < l.length) (h5 : 16 ≤ t - a) :
    Calls Try.prog 14 #[.agg #[.int .i64 t, .slice sa L.length sc, .int .i64 f, .slice va l.length vc, .int .i64 dn], .agg #[.int .i64 a, .int .i64 b, .int .i64 c, .int .i64 d]] w (RrP w t L f l.length l dn false 16) := by
  have HS := Lib.hid hs
  have HV := Lib.hid hv
  have HCP := Lib.hid hc
  clear hs hv hc
  have HWF := Lib.hid hwf
  have HRV := Lib.hid hrv
  clear hwf hrv
  have HOP := Lib.hid hop
  clear hop
  have g1 : decide (c ≥ (l.length : Int)) = false := by simp; omega
  have g2 : decide ((l.length : Int) ≤ c) = false := by simp; omega
  have HWT := Lib.hid (And.intro HWF.out.2.1 HWF.out.2.2.1)
  have e16 : wrap64 (t - 16) = t - 16 := IntWalk.wrap64_in _ (by have := HWT.out; omega)
  clear hcl
  have g3 : decide (a ≤ t - 16) = true := by simp; omega
  clear h5
  have H0 := Lib.hid (Below.refl w.heap.size w)
  have H1 := Lib.hid (keep2 (al w (.cells #[.int .i64 t, .slice sa L.length sc, .int .i64 f, .slice va l.length vc, .int .i64 dn] 30)) H0.out)
  clear H0
  have H2 := Lib.hid (Cs.new w (w.heap.size) #[.int .i64 t, .slice sa L.length sc, .int .i64 f, .slice va l.length vc, .int .i64 dn] 30 (by simp))
  have H3 := Lib.hid (H2.out.step (al (w.alloc (.cells #[.int .i64 t, .slice sa L.length sc, .int .i64 f, .slice va l.length vc, .int .i64 dn] 30)) (.cells #[.int .i64 a, .int .i64 b, .int .i64 c, .int .i64 d] 32)))
  clear H2
  have H4 := Lib.hid (keep2 (al (w.alloc (.cells #[.int .i64 t, .slice sa L.length sc, .int .i64 f, .slice va l.length vc, .int .i64 dn] 30)) (.cells #[.int .i64 a, .int .i64 b, .int .i64 c, .int .i64 d] 32)) H1.out)
  clear H1
  have H5 := Lib.hid (Cs.new (w.alloc (.cells #[.int .i64 t, .slice sa L.length sc, .int .i64 f, .slice va l.length vc, .int .i64 dn] 30)) (w.heap.size + 1) #[.int .i64 a, .int .i64 b, .int .i64 c, .int .i64 d] 32 (by simp))
  have H6 := Lib.hid (H3.out.step (al ((w.alloc (.cells #[.int .i64 t, .slice sa L.length sc, .int .i64 f, .slice va l.length vc, .int .i64 dn] 30)).alloc (.cells #[.int .i64 a, .int .i64 b, .int .i64 c, .int .i64 d] 32)) (.cells #[.int .i64 0, .slice none 0 0, .int .i64 0, .slice none 0 0, .int .i64 0] 30)))
  clear H3
  have H7 := Lib.hid (H5.out.step (al ((w.alloc (.cells #[.int .i64 t, .slice sa L.length sc, .int .i64 f, .slice va l.length vc, .int .i64 dn] 30)).alloc (.cells #[.int .i64 a, .int .i64 b, .int .i64 c, .int .i64 d] 32)) (.cells #[.int .i64 0, .slice none 0 0, .int .i64 0, .slice none 0 0, .int .i64 0] 30)))
  clear H5
  have H8 := Lib.hid (keep2 (al ((w.alloc (.cells #[.int .i64 t, .slice sa L.length sc, .int .i64 f, .slice va l.length vc, .int .i64 dn] 30)).alloc (.cells #[.int .i64 a, .int .i64 b, .int .i64 c, .int .i64 d] 32)) (.cells #[.int .i64 0, .slice none 0 0, .int .i64 0, .slice none 0 0, .int .i64 0] 30)) H4.out)
  clear H4
  have H9 := Lib.hid (Cs.new ((w.alloc (.cells #[.int .i64 t, .slice sa L.length sc, .int .i64 f, .slice va l.length vc, .int .i64 dn] 30)).alloc (.cells #[.int .i64 a, .int .i64 b, .int .i64 c, .int .i64 d] 32)) (w.heap.size + 1 + 1) #[.int .i64 0, .slice none 0 0, .int .i64 0, .slice none 0 0, .int .i64 0] 30 (by simp))
  go_enter Try.func14, Try.ntmps14
  have xR0 : (((w.alloc (.cells #[.int .i64 t, .slice sa L.length sc, .int .i64 f, .slice va l.length vc, .int .i64 dn] 30)).alloc (.cells #[.int .i64 a, .int .i64 b, .int .i64 c, .int .i64 d] 32)).alloc (.cells #[.int .i64 0, .slice none 0 0, .int .i64 0, .slice none 0 0, .int .i64 0] 30)).cell? ⟨(w.heap.size), 0, none⟩ = some (.int .i64 t) := H6.out.c 0 rfl
  have xR1 : (((w.alloc (.cells #[.int .i64 t, .slice sa L.length sc, .int .i64 f, .slice va l.length vc, .int .i64 dn] 30)).alloc (.cells #[.int .i64 a, .int .i64 b, .int .i64 c, .int .i64 d] 32)).alloc (.cells #[.int .i64 0, .slice none 0 0, .int .i64 0, .slice none 0 0, .int .i64 0] 30)).cell? ⟨(w.heap.size), 1, none⟩ = some (.slice sa L.length sc) := H6.out.c 1 rfl
  have xR2 : (((w.alloc (.cells #[.int .i64 t, .slice sa L.length sc, .int .i64 f, .slice va l.length vc, .int .i64 dn] 30)).alloc (.cells #[.int .i64 a, .int .i64 b, .int .i64 c, .int .i64 d] 32)).alloc (.cells #[.int .i64 0, .slice none 0 0, .int .i64 0, .slice none 0 0, .int .i64 0] 30)).cell? ⟨(w.heap.size), 2, none⟩ = some (.int .i64 f) := H6.out.c 2 rfl
  have xR3 : (((w.alloc (.cells #[.int .i64 t, .slice sa L.length sc, .int .i64 f, .slice va l.length vc, .int .i64 dn] 30)).alloc (.cells #[.int .i64 a, .int .i64 b, .int .i64 c, .int .i64 d] 32)).alloc (.cells #[.int .i64 0, .slice none 0 0, .int .i64 0, .slice none 0 0, .int .i64 0] 30)).cell? ⟨(w.heap.size), 3, none⟩ = some (.slice va l.length vc) := H6.out.c 3 rfl
  have xR4 : (((w.alloc (.cells #[.int .i64 t, .slice sa L.length sc, .int .i64 f, .slice va l.length vc, .int .i64 dn] 30)).alloc (.cells #[.int .i64 a, .int .i64 b, .int .i64 c, .int .i64 d] 32)).alloc (.cells #[.int .i64 0, .slice none 0 0, .int .i64 0, .slice none 0 0, .int .i64 0] 30)).cell? ⟨(w.heap.size), 4, none⟩ = some (.int .i64 dn) := H6.out.c 4 rfl
  have zR : (w.heap.size) < (((w.alloc (.cells #[.int .i64 t, .slice sa L.length sc, .int .i64 f, .slice va l.length vc, .int .i64 dn] 30)).alloc (.cells #[.int .i64 a, .int .i64 b, .int .i64 c, .int .i64 d] 32)).alloc (.cells #[.int .i64 0, .slice none 0 0, .int .i64 0, .slice none 0 0, .int .i64 0] 30)).heap.size := H6.out.2.2
  go_wp2_with fail
  refine (rrecv_win t f dn sa va sc vc L l _ (HS.out.step H8.out) HCP.out (HV.out.step H8.out) HWF.out _ HRV.out).mono ?_
  rintro e u1 ⟨rfl, b1⟩
  clear xR0 xR1 xR2 xR3 xR4 zR
  have H10 := Lib.hid (H6.out.step b1)
  clear H6
  have H11 := Lib.hid (H7.out.step b1)
  clear H7
  have H12 := Lib.hid (H9.out.step b1)
  clear H9
  have H13 := Lib.hid (keep2 b1 H8.out)
  clear H8
  clear b1
  have xO0 : u1.cell? ⟨(w.heap.size + 1), 0, none⟩ = some (.int .i64 a) := H11.out.c 0 rfl
  have xO1 : u1.cell? ⟨(w.heap.size + 1), 1, none⟩ = some (.int .i64 b) := H11.out.c 1 rfl
  have xO2 : u1.cell? ⟨(w.heap.size + 1), 2, none⟩ = some (.int .i64 c) := H11.out.c 2 rfl
  have xO3 : u1.cell? ⟨(w.heap.size + 1), 3, none⟩ = some (.int .i64 d) := H11.out.c 3 rfl
  have zO : (w.heap.size + 1) < u1.heap.size := H11.out.2.2
  have xR0 : u1.cell? ⟨(w.heap.size), 0, none⟩ = some (.int .i64 t) := H10.out.c 0 rfl
  have xR1 : u1.cell? ⟨(w.heap.size), 1, none⟩ = some (.slice sa L.length sc) := H10.out.c 1 rfl
  have xR2 : u1.cell? ⟨(w.heap.size), 2, none⟩ = some (.int .i64 f) := H10.out.c 2 rfl
  have xR3 : u1.cell? ⟨(w.heap.size), 3, none⟩ = some (.slice va l.length vc) := H10.out.c 3 rfl
  have xR4 : u1.cell? ⟨(w.heap.size), 4, none⟩ = some (.int .i64 dn) := H10.out.c 4 rfl
  have zR : (w.heap.size) < u1.heap.size := H10.out.2.2
  go_wp2_with fail
  refine (rorder_any a b c d _ HOP.out _).mono ?_
  rintro e u2 ⟨rfl, b2⟩
  clear xO0 xO1 xO2 xO3 zO xR0 xR1 xR2 xR3 xR4 zR
  have H14 := Lib.hid (H10.out.step b2)
  clear H10
  have H15 := Lib.hid (H11.out.step b2)
  clear H11
  have H16 := Lib.hid (H12.out.step b2)
  clear H12
  have H17 := Lib.hid (keep2 b2 H13.out)
  clear H13
  clear b2
  have xR0 : u2.cell? ⟨(w.heap.size), 0, none⟩ = some (.int .i64 t) := H14.out.c 0 rfl
  have xR1 : u2.cell? ⟨(w.heap.size), 1, none⟩ = some (.slice sa L.length sc) := H14.out.c 1 rfl
  have xR2 : u2.cell? ⟨(w.heap.size), 2, none⟩ = some (.int .i64 f) := H14.out.c 2 rfl
  have xR3 : u2.cell? ⟨(w.heap.size), 3, none⟩ = some (.slice va l.length vc) := H14.out.c 3 rfl
  have xR4 : u2.cell? ⟨(w.heap.size), 4, none⟩ = some (.int .i64 dn) := H14.out.c 4 rfl
  have zR : (w.heap.size) < u2.heap.size := H14.out.2.2
  have xO0 : u2.cell? ⟨(w.heap.size + 1), 0, none⟩ = some (.int .i64 a) := H15.out.c 0 rfl
  have xO1 : u2.cell? ⟨(w.heap.size + 1), 1, none⟩ = some (.int .i64 b) := H15.out.c 1 rfl
  have xO2 : u2.cell? ⟨(w.heap.size + 1), 2, none⟩ = some (.int .i64 c) := H15.out.c 2 rfl
  have xO3 : u2.cell? ⟨(w.heap.size + 1), 3, none⟩ = some (.int .i64 d) := H15.out.c 3 rfl
  have zO : (w.heap.size + 1) < u2.heap.size := H15.out.2.2
  have xZ0 : u2.cell? ⟨(w.heap.size + 1 + 1), 0, none⟩ = some (.int .i64 0) := H16.out.c 0 rfl
  have xZ1 : u2.cell? ⟨(w.heap.size + 1 + 1), 1, none⟩ = some (.slice none 0 0) := H16.out.c 1 rfl
  have xZ2 : u2.cell? ⟨(w.heap.size + 1 + 1), 2, none⟩ = some (.int .i64 0) := H16.out.c 2 rfl
  have xZ3 : u2.cell? ⟨(w.heap.size + 1 + 1), 3, none⟩ = some (.slice none 0 0) := H16.out.c 3 rfl
  have xZ4 : u2.cell? ⟨(w.heap.size + 1 + 1), 4, none⟩ = some (.int .i64 0) := H16.out.c 4 rfl
  have zZ : (w.heap.size + 1 + 1) < u2.heap.size := H16.out.2.2
  have yz0 : u2.frozen? ⟨w.heap.size + 1 + 1, 0, none⟩ = false := H16.out.f 0 (by simp)
  have yz1 : u2.frozen? ⟨w.heap.size + 1 + 1, 1, none⟩ = false := H16.out.f 1 (by simp)
  have yz2 : u2.frozen? ⟨w.heap.size + 1 + 1, 2, none⟩ = false := H16.out.f 2 (by simp)
  have yz3 : u2.frozen? ⟨w.heap.size + 1 + 1, 3, none⟩ = false := H16.out.f 3 (by simp)
  have yz4 : u2.frozen? ⟨w.heap.size + 1 + 1, 4, none⟩ = false := H16.out.f 4 (by simp)
  go_wp2_with fail
  have HLE := Lib.hid (show w.heap.size ≤ w.heap.size + 1 + 1 by omega)
  refine (fun (h : ∀ V : World, Cs V (w.heap.size + 1 + 1) #[.int .i64 t, .slice sa L.length sc, .int .i64 f, .slice va l.length vc, .int .i64 dn] → Below w.heap.size w V → bodyPost Try.prog Try.f14 _ Exit.ret _ V) => h _ (Cs.set (Cs.set (Cs.set (Cs.set (Cs.set (H16.out) 0 (by simp) (.int .i64 t) (vs' := #[.int .i64 t, .slice none 0 0, .int .i64 0, .slice none 0 0, .int .i64 0]) rfl) 1 (by simp) (.slice sa L.length sc) (vs' := #[.int .i64 t, .slice sa L.length sc, .int .i64 0, .slice none 0 0, .int .i64 0]) rfl) 2 (by simp) (.int .i64 f) (vs' := #[.int .i64 t, .slice sa L.length sc, .int .i64 f, .slice none 0 0, .int .i64 0]) rfl) 3 (by simp) (.slice va l.length vc) (vs' := #[.int .i64 t, .slice sa L.length sc, .int .i64 f, .slice va l.length vc, .int .i64 0]) rfl) 4 (by simp) (.int .i64 dn) (vs' := #[.int .i64 t, .slice sa L.length sc, .int .i64 f, .slice va l.length vc, .int .i64 dn]) rfl) ((((((H17.out).setCell (p := ⟨w.heap.size + 1 + 1, 0, none⟩) HLE.out _).setCell (p := ⟨w.heap.size + 1 + 1, 1, none⟩) HLE.out _).setCell (p := ⟨w.heap.size + 1 + 1, 2, none⟩) HLE.out _).setCell (p := ⟨w.heap.size + 1 + 1, 3, none⟩) HLE.out _).setCell (p := ⟨w.heap.size + 1 + 1, 4, none⟩) HLE.out _)) ?_
  intro V hC hW
  have k0 : V.cell? ⟨w.heap.size + 1 + 1, 0, none⟩ = some (.int .i64 t) := hC.c 0 rfl
  have k1 : V.cell? ⟨w.heap.size + 1 + 1, 1, none⟩ = some (.slice sa L.length sc) := hC.c 1 rfl
  have k2 : V.cell? ⟨w.heap.size + 1 + 1, 2, none⟩ = some (.int .i64 f) := hC.c 2 rfl
  have k3 : V.cell? ⟨w.heap.size + 1 + 1, 3, none⟩ = some (.slice va l.length vc) := hC.c 3 rfl
  have k4 : V.cell? ⟨w.heap.size + 1 + 1, 4, none⟩ = some (.int .i64 dn) := hC.c 4 rfl
  exact bodyPost_ret (v := .tuple #[.agg #[.int .i64 t, .slice sa L.length sc, .int .i64 f, .slice va l.length vc, .int .i64 dn], .bool false, .int .i64 16]) (by simp [results, Try.results14, go_sem, k0, k1, k2, k3, k4]) rfl ⟨sc, vc, sa, va, rfl, HCP.out, HS.out.step hW, HV.out.step hW, hW⟩
set_option maxRecDepth 100000 in
set_option maxHeartbeats 8000000 in
theorem rreceive_known (t f dn a b c d : Int) (sa va : Option Addr) (sc vc : Nat) (L : List Bool) (l : List Int) (w : World) (hs : BosAt w (.slice sa L.length sc) L) (hc : L.length ≤ sc) (hv : IntsAt w (.slice va l.length vc) l) (hwf : WF t L) (hrv : rvB f l dn = true) (hop : orB a b c d = true) (hcl : c < l.length) (h5 : a ≤ t) (h6 : t - a < 16) (h7 : L.getD (t - a).toNat false = true) :
    Calls Try.prog 14 #[.agg #[.int .i64 t, .slice sa L.length sc, .int .i64 f, .slice va l.length vc, .int .i64 dn], .agg #[.int .i64 a, .int .i64 b, .int .i64 c, .int .i64 d]] w (RrP w t L f l.length l dn true 0) := by
  have HS := Lib.hid hs
  have HV := Lib.hid hv
  have HCP := Lib.hid hc
  clear hs hv hc
  have HWF := Lib.hid hwf
  have HRV := Lib.hid hrv
  clear hwf hrv
  have HOP := Lib.hid hop
  clear hop
  have g1 : decide (c ≥ (l.length : Int)) = false := by simp; omega
  have g2 : decide ((l.length : Int) ≤ c) = false := by simp; omega
  have HWT := Lib.hid (And.intro HWF.out.2.1 HWF.out.2.2.1)
  have e16 : wrap64 (t - 16) = t - 16 := IntWalk.wrap64_in _ (by have := HWT.out; omega)
  clear hcl
  have HK := Lib.hid (And.intro h5 (And.intro h6 h7))
  have g3 : decide (a ≤ t - 16) = false := by simp; omega
  clear h5 h6 h7
  have H0 := Lib.hid (Below.refl w.heap.size w)
  have H1 := Lib.hid (keep2 (al w (.cells #[.int .i64 t, .slice sa L.length sc, .int .i64 f, .slice va l.length vc, .int .i64 dn] 30)) H0.out)
  clear H0
  have H2 := Lib.hid (Cs.new w (w.heap.size) #[.int .i64 t, .slice sa L.length sc, .int .i64 f, .slice va l.length vc, .int .i64 dn] 30 (by simp))
  have H3 := Lib.hid (H2.out.step (al (w.alloc (.cells #[.int .i64 t, .slice sa L.length sc, .int .i64 f, .slice va l.length vc, .int .i64 dn] 30)) (.cells #[.int .i64 a, .int .i64 b, .int .i64 c, .int .i64 d] 32)))
  clear H2
  have H4 := Lib.hid (keep2 (al (w.alloc (.cells #[.int .i64 t, .slice sa L.length sc, .int .i64 f, .slice va l.length vc, .int .i64 dn] 30)) (.cells #[.int .i64 a, .int .i64 b, .int .i64 c, .int .i64 d] 32)) H1.out)
  clear H1
  have H5 := Lib.hid (Cs.new (w.alloc (.cells #[.int .i64 t, .slice sa L.length sc, .int .i64 f, .slice va l.length vc, .int .i64 dn] 30)) (w.heap.size + 1) #[.int .i64 a, .int .i64 b, .int .i64 c, .int .i64 d] 32 (by simp))
  have H6 := Lib.hid (H3.out.step (al ((w.alloc (.cells #[.int .i64 t, .slice sa L.length sc, .int .i64 f, .slice va l.length vc, .int .i64 dn] 30)).alloc (.cells #[.int .i64 a, .int .i64 b, .int .i64 c, .int .i64 d] 32)) (.cells #[.int .i64 0, .slice none 0 0, .int .i64 0, .slice none 0 0, .int .i64 0] 30)))
  clear H3
  have H7 := Lib.hid (H5.out.step (al ((w.alloc (.cells #[.int .i64 t, .slice sa L.length sc, .int .i64 f, .slice va l.length vc, .int .i64 dn] 30)).alloc (.cells #[.int .i64 a, .int .i64 b, .int .i64 c, .int .i64 d] 32)) (.cells #[.int .i64 0, .slice none 0 0, .int .i64 0, .slice none 0 0, .int .i64 0] 30)))
  clear H5
  have H8 := Lib.hid (keep2 (al ((w.alloc (.cells #[.int .i64 t, .slice sa L.length sc, .int .i64 f, .slice va l.length vc, .int .i64 dn] 30)).alloc (.cells #[.int .i64 a, .int .i64 b, .int .i64 c, .int .i64 d] 32)) (.cells #[.int .i64 0, .slice none 0 0, .int .i64 0, .slice none 0 0, .int .i64 0] 30)) H4.out)
  clear H4
  have H9 := Lib.hid (Cs.new ((w.alloc (.cells #[.int .i64 t, .slice sa L.length sc, .int .i64 f, .slice va l.length vc, .int .i64 dn] 30)).alloc (.cells #[.int .i64 a, .int .i64 b, .int .i64 c, .int .i64 d] 32)) (w.heap.size + 1 + 1) #[.int .i64 0, .slice none 0 0, .int .i64 0, .slice none 0 0, .int .i64 0] 30 (by simp))
  go_enter Try.func14, Try.ntmps14
  have xR0 : (((w.alloc (.cells #[.int .i64 t, .slice sa L.length sc, .int .i64 f, .slice va l.length vc, .int .i64 dn] 30)).alloc (.cells #[.int .i64 a, .int .i64 b, .int .i64 c, .int .i64 d] 32)).alloc (.cells #[.int .i64 0, .slice none 0 0, .int .i64 0, .slice none 0 0, .int .i64 0] 30)).cell? ⟨(w.heap.size), 0, none⟩ = some (.int .i64 t) := H6.out.c 0 rfl
  have xR1 : (((w.alloc (.cells #[.int .i64 t, .slice sa L.length sc, .int .i64 f, .slice va l.length vc, .int .i64 dn] 30)).alloc (.cells #[.int .i64 a, .int .i64 b, .int .i64 c, .int .i64 d] 32)).alloc (.cells #[.int .i64 0, .slice none 0 0, .int .i64 0, .slice none 0 0, .int .i64 0] 30)).cell? ⟨(w.heap.size), 1, none⟩ = some (.slice sa L.length sc) := H6.out.c 1 rfl
  have xR2 : (((w.alloc (.cells #[.int .i64 t, .slice sa L.length sc, .int .i64 f, .slice va l.length vc, .int .i64 dn] 30)).alloc (.cells #[.int .i64 a, .int .i64 b, .int .i64 c, .int .i64 d] 32)).alloc (.cells #[.int .i64 0, .slice none 0 0, .int .i64 0, .slice none 0 0, .int .i64 0] 30)).cell? ⟨(w.heap.size), 2, none⟩ = some (.int .i64 f) := H6.out.c 2 rfl
  have xR3 : (((w.alloc (.cells #[.int .i64 t, .slice sa L.length sc, .int .i64 f, .slice va l.length vc, .int .i64 dn] 30)).alloc (.cells #[.int .i64 a, .int .i64 b, .int .i64 c, .int .i64 d] 32)).alloc (.cells #[.int .i64 0, .slice none 0 0, .int .i64 0, .slice none 0 0, .int .i64 0] 30)).cell? ⟨(w.heap.size), 3, none⟩ = some (.slice va l.length vc) := H6.out.c 3 rfl
  have xR4 : (((w.alloc (.cells #[.int .i64 t, .slice sa L.length sc, .int .i64 f, .slice va l.length vc, .int .i64 dn] 30)).alloc (.cells #[.int .i64 a, .int .i64 b, .int .i64 c, .int .i64 d] 32)).alloc (.cells #[.int .i64 0, .slice none 0 0, .int .i64 0, .slice none 0 0, .int .i64 0] 30)).cell? ⟨(w.heap.size), 4, none⟩ = some (.int .i64 dn) := H6.out.c 4 rfl
  have zR : (w.heap.size) < (((w.alloc (.cells #[.int .i64 t, .slice sa L.length sc, .int .i64 f, .slice va l.length vc, .int .i64 dn] 30)).alloc (.cells #[.int .i64 a, .int .i64 b, .int .i64 c, .int .i64 d] 32)).alloc (.cells #[.int .i64 0, .slice none 0 0, .int .i64 0, .slice none 0 0, .int .i64 0] 30)).heap.size := H6.out.2.2
  go_wp2_with fail
  refine (rrecv_win t f dn sa va sc vc L l _ (HS.out.step H8.out) HCP.out (HV.out.step H8.out) HWF.out _ HRV.out).mono ?_
  rintro e u1 ⟨rfl, b1⟩
  clear xR0 xR1 xR2 xR3 xR4 zR
  have H10 := Lib.hid (H6.out.step b1)
  clear H6
  have H11 := Lib.hid (H7.out.step b1)
  clear H7
  have H12 := Lib.hid (H9.out.step b1)
  clear H9
  have H13 := Lib.hid (keep2 b1 H8.out)
  clear H8
  clear b1
  have xO0 : u1.cell? ⟨(w.heap.size + 1), 0, none⟩ = some (.int .i64 a) := H11.out.c 0 rfl
  have xO1 : u1.cell? ⟨(w.heap.size + 1), 1, none⟩ = some (.int .i64 b) := H11.out.c 1 rfl
  have xO2 : u1.cell? ⟨(w.heap.size + 1), 2, none⟩ = some (.int .i64 c) := H11.out.c 2 rfl
  have xO3 : u1.cell? ⟨(w.heap.size + 1), 3, none⟩ = some (.int .i64 d) := H11.out.c 3 rfl
  have zO : (w.heap.size + 1) < u1.heap.size := H11.out.2.2
  have xR0 : u1.cell? ⟨(w.heap.size), 0, none⟩ = some (.int .i64 t) := H10.out.c 0 rfl
  have xR1 : u1.cell? ⟨(w.heap.size), 1, none⟩ = some (.slice sa L.length sc) := H10.out.c 1 rfl
  have xR2 : u1.cell? ⟨(w.heap.size), 2, none⟩ = some (.int .i64 f) := H10.out.c 2 rfl
  have xR3 : u1.cell? ⟨(w.heap.size), 3, none⟩ = some (.slice va l.length vc) := H10.out.c 3 rfl
  have xR4 : u1.cell? ⟨(w.heap.size), 4, none⟩ = some (.int .i64 dn) := H10.out.c 4 rfl
  have zR : (w.heap.size) < u1.heap.size := H10.out.2.2
  go_wp2_with fail
  refine (rorder_any a b c d _ HOP.out _).mono ?_
  rintro e u2 ⟨rfl, b2⟩
  clear xO0 xO1 xO2 xO3 zO xR0 xR1 xR2 xR3 xR4 zR
  have H14 := Lib.hid (H10.out.step b2)
  clear H10
  have H15 := Lib.hid (H11.out.step b2)
  clear H11
  have H16 := Lib.hid (H12.out.step b2)
  clear H12
  have H17 := Lib.hid (keep2 b2 H13.out)
  clear H13
  clear b2
  have xR0 : u2.cell? ⟨(w.heap.size), 0, none⟩ = some (.int .i64 t) := H14.out.c 0 rfl
  have xR1 : u2.cell? ⟨(w.heap.size), 1, none⟩ = some (.slice sa L.length sc) := H14.out.c 1 rfl
  have xR2 : u2.cell? ⟨(w.heap.size), 2, none⟩ = some (.int .i64 f) := H14.out.c 2 rfl
  have xR3 : u2.cell? ⟨(w.heap.size), 3, none⟩ = some (.slice va l.length vc) := H14.out.c 3 rfl
  have xR4 : u2.cell? ⟨(w.heap.size), 4, none⟩ = some (.int .i64 dn) := H14.out.c 4 rfl
  have zR : (w.heap.size) < u2.heap.size := H14.out.2.2
  have xO0 : u2.cell? ⟨(w.heap.size + 1), 0, none⟩ = some (.int .i64 a) := H15.out.c 0 rfl
  have xO1 : u2.cell? ⟨(w.heap.size + 1), 1, none⟩ = some (.int .i64 b) := H15.out.c 1 rfl
  have xO2 : u2.cell? ⟨(w.heap.size + 1), 2, none⟩ = some (.int .i64 c) := H15.out.c 2 rfl
  have xO3 : u2.cell? ⟨(w.heap.size + 1), 3, none⟩ = some (.int .i64 d) := H15.out.c 3 rfl
  have zO : (w.heap.size + 1) < u2.heap.size := H15.out.2.2
  go_wp2_with fail
  refine (rknown_in t f dn a b c d sa va sc vc L l _ (HS.out.step H17.out) HK.out.1 HK.out.2.1 HWT.out (orB_iff HOP.out).1.1 HWF.out.1 true HK.out.2.2).mono ?_
  rintro e u3 ⟨rfl, b3⟩
  clear xR0 xR1 xR2 xR3 xR4 zR xO0 xO1 xO2 xO3 zO
  have H18 := Lib.hid (H14.out.step b3)
  clear H14
  have H19 := Lib.hid (H15.out.step b3)
  clear H15
  have H20 := Lib.hid (H16.out.step b3)
  clear H16
  have H21 := Lib.hid (keep2 b3 H17.out)
  clear H17
  clear b3
  have xR0 : u3.cell? ⟨(w.heap.size), 0, none⟩ = some (.int .i64 t) := H18.out.c 0 rfl
  have xR1 : u3.cell? ⟨(w.heap.size), 1, none⟩ = some (.slice sa L.length sc) := H18.out.c 1 rfl
  have xR2 : u3.cell? ⟨(w.heap.size), 2, none⟩ = some (.int .i64 f) := H18.out.c 2 rfl
  have xR3 : u3.cell? ⟨(w.heap.size), 3, none⟩ = some (.slice va l.length vc) := H18.out.c 3 rfl
  have xR4 : u3.cell? ⟨(w.heap.size), 4, none⟩ = some (.int .i64 dn) := H18.out.c 4 rfl
  have zR : (w.heap.size) < u3.heap.size := H18.out.2.2
  have xO0 : u3.cell? ⟨(w.heap.size + 1), 0, none⟩ = some (.int .i64 a) := H19.out.c 0 rfl
  have xO1 : u3.cell? ⟨(w.heap.size + 1), 1, none⟩ = some (.int .i64 b) := H19.out.c 1 rfl
  have xO2 : u3.cell? ⟨(w.heap.size + 1), 2, none⟩ = some (.int .i64 c) := H19.out.c 2 rfl
  have xO3 : u3.cell? ⟨(w.heap.size + 1), 3, none⟩ = some (.int .i64 d) := H19.out.c 3 rfl
  have zO : (w.heap.size + 1) < u3.heap.size := H19.out.2.2
  have xZ0 : u3.cell? ⟨(w.heap.size + 1 + 1), 0, none⟩ = some (.int .i64 0) := H20.out.c 0 rfl
  have xZ1 : u3.cell? ⟨(w.heap.size + 1 + 1), 1, none⟩ = some (.slice none 0 0) := H20.out.c 1 rfl
  have xZ2 : u3.cell? ⟨(w.heap.size + 1 + 1), 2, none⟩ = some (.int .i64 0) := H20.out.c 2 rfl
  have xZ3 : u3.cell? ⟨(w.heap.size + 1 + 1), 3, none⟩ = some (.slice none 0 0) := H20.out.c 3 rfl
  have xZ4 : u3.cell? ⟨(w.heap.size + 1 + 1), 4, none⟩ = some (.int .i64 0) := H20.out.c 4 rfl
  have zZ : (w.heap.size + 1 + 1) < u3.heap.size := H20.out.2.2
  have yz0 : u3.frozen? ⟨w.heap.size + 1 + 1, 0, none⟩ = false := H20.out.f 0 (by simp)
  have yz1 : u3.frozen? ⟨w.heap.size + 1 + 1, 1, none⟩ = false := H20.out.f 1 (by simp)
  have yz2 : u3.frozen? ⟨w.heap.size + 1 + 1, 2, none⟩ = false := H20.out.f 2 (by simp)
  have yz3 : u3.frozen? ⟨w.heap.size + 1 + 1, 3, none⟩ = false := H20.out.f 3 (by simp)
  have yz4 : u3.frozen? ⟨w.heap.size + 1 + 1, 4, none⟩ = false := H20.out.f 4 (by simp)
  go_wp2_with fail
  have HLE := Lib.hid (show w.heap.size ≤ w.heap.size + 1 + 1 by omega)
  refine (fun (h : ∀ V : World, Cs V (w.heap.size + 1 + 1) #[.int .i64 t, .slice sa L.length sc, .int .i64 f, .slice va l.length vc, .int .i64 dn] → Below w.heap.size w V → bodyPost Try.prog Try.f14 _ Exit.ret _ V) => h _ (Cs.set (Cs.set (Cs.set (Cs.set (Cs.set (H20.out) 0 (by simp) (.int .i64 t) (vs' := #[.int .i64 t, .slice none 0 0, .int .i64 0, .slice none 0 0, .int .i64 0]) rfl) 1 (by simp) (.slice sa L.length sc) (vs' := #[.int .i64 t, .slice sa L.length sc, .int .i64 0, .slice none 0 0, .int .i64 0]) rfl) 2 (by simp) (.int .i64 f) (vs' := #[.int .i64 t, .slice sa L.length sc, .int .i64 f, .slice none 0 0, .int .i64 0]) rfl) 3 (by simp) (.slice va l.length vc) (vs' := #[.int .i64 t, .slice sa L.length sc, .int .i64 f, .slice va l.length vc, .int .i64 0]) rfl) 4 (by simp) (.int .i64 dn) (vs' := #[.int .i64 t, .slice sa L.length sc, .int .i64 f, .slice va l.length vc, .int .i64 dn]) rfl) ((((((H21.out).setCell (p := ⟨w.heap.size + 1 + 1, 0, none⟩) HLE.out _).setCell (p := ⟨w.heap.size + 1 + 1, 1, none⟩) HLE.out _).setCell (p := ⟨w.heap.size + 1 + 1, 2, none⟩) HLE.out _).setCell (p := ⟨w.heap.size + 1 + 1, 3, none⟩) HLE.out _).setCell (p := ⟨w.heap.size + 1 + 1, 4, none⟩) HLE.out _)) ?_
  intro V hC hW
  have k0 : V.cell? ⟨w.heap.size + 1 + 1, 0, none⟩ = some (.int .i64 t) := hC.c 0 rfl
  have k1 : V.cell? ⟨w.heap.size + 1 + 1, 1, none⟩ = some (.slice sa L.length sc) := hC.c 1 rfl
  have k2 : V.cell? ⟨w.heap.size + 1 + 1, 2, none⟩ = some (.int .i64 f) := hC.c 2 rfl
  have k3 : V.cell? ⟨w.heap.size + 1 + 1, 3, none⟩ = some (.slice va l.length vc) := hC.c 3 rfl
  have k4 : V.cell? ⟨w.heap.size + 1 + 1, 4, none⟩ = some (.int .i64 dn) := hC.c 4 rfl
  exact bodyPost_ret (v := .tuple #[.agg #[.int .i64 t, .slice sa L.length sc, .int .i64 f, .slice va l.length vc, .int .i64 dn], .bool true, .int .i64 0]) (by simp [results, Try.results14, go_sem, k0, k1, k2, k3, k4]) rfl ⟨sc, vc, sa, va, rfl, HCP.out, HS.out.step hW, HV.out.step hW, hW⟩
set_option maxRecDepth 100000 in
set_option maxHeartbeats 8000000 in
theorem rreceive_low1 (t f dn a b c d : Int) (sa va : Option Addr) (sc vc : Nat) (L : List Bool) (l : List Int) (w : World) (hs : BosAt w (.slice sa L.length sc) L) (hc : L.length ≤ sc) (hv : IntsAt w (.slice va l.length vc) l) (hwf : WF t L) (hrv : rvB f l dn = true) (hop : orB a b c d = true) (hcl : c < l.length) (h5 : t < a) (h6 : b < f) :
    Calls Try.prog 14 #[.agg #[.int .i64 t, .slice sa L.length sc, .int .i64 f, .slice va l.length vc, .int .i64 dn], .agg #[.int .i64 a, .int .i64 b, .int .i64 c, .int .i64 d]] w (RrP w t L f l.length l dn false 23) := by
  have HS := Lib.hid hs
  have HV := Lib.hid hv
  have HCP := Lib.hid hc
  clear hs hv hc
  have HWF := Lib.hid hwf
  have HRV := Lib.hid hrv
  clear hwf hrv
  have HOP := Lib.hid hop
  clear hop
  have g1 : decide (c ≥ (l.length : Int)) = false := by simp; omega
  have g2 : decide ((l.length : Int) ≤ c) = false := by simp; omega
  have HWT := Lib.hid (And.intro HWF.out.2.1 HWF.out.2.2.1)
  have e16 : wrap64 (t - 16) = t - 16 := IntWalk.wrap64_in _ (by have := HWT.out; omega)
  clear hcl
  have HK := Lib.hid h5
  have g3 : decide (a ≤ t - 16) = false := by simp; omega
  clear h5
  have l1 : decide (b < f) = true := decide_eq_true h6
  clear h6
  have H0 := Lib.hid (Below.refl w.heap.size w)
  have H1 := Lib.hid (keep2 (al w (.cells #[.int .i64 t, .slice sa L.length sc, .int .i64 f, .slice va l.length vc, .int .i64 dn] 30)) H0.out)
  clear H0
  have H2 := Lib.hid (Cs.new w (w.heap.size) #[.int .i64 t, .slice sa L.length sc, .int .i64 f, .slice va l.length vc, .int .i64 dn] 30 (by simp))
  have H3 := Lib.hid (H2.out.step (al (w.alloc (.cells #[.int .i64 t, .slice sa L.length sc, .int .i64 f, .slice va l.length vc, .int .i64 dn] 30)) (.cells #[.int .i64 a, .int .i64 b, .int .i64 c, .int .i64 d] 32)))
  clear H2
  have H4 := Lib.hid (keep2 (al (w.alloc (.cells #[.int .i64 t, .slice sa L.length sc, .int .i64 f, .slice va l.length vc, .int .i64 dn] 30)) (.cells #[.int .i64 a, .int .i64 b, .int .i64 c, .int .i64 d] 32)) H1.out)
  clear H1
  have H5 := Lib.hid (Cs.new (w.alloc (.cells #[.int .i64 t, .slice sa L.length sc, .int .i64 f, .slice va l.length vc, .int .i64 dn] 30)) (w.heap.size + 1) #[.int .i64 a, .int .i64 b, .int .i64 c, .int .i64 d] 32 (by simp))
  have H6 := Lib.hid (H3.out.step (al ((w.alloc (.cells #[.int .i64 t, .slice sa L.length sc, .int .i64 f, .slice va l.length vc, .int .i64 dn] 30)).alloc (.cells #[.int .i64 a, .int .i64 b, .int .i64 c, .int .i64 d] 32)) (.cells #[.int .i64 0, .slice none 0 0, .int .i64 0, .slice none 0 0, .int .i64 0] 30)))
  clear H3
  have H7 := Lib.hid (H5.out.step (al ((w.alloc (.cells #[.int .i64 t, .slice sa L.length sc, .int .i64 f, .slice va l.length vc, .int .i64 dn] 30)).alloc (.cells #[.int .i64 a, .int .i64 b, .int .i64 c, .int .i64 d] 32)) (.cells #[.int .i64 0, .slice none 0 0, .int .i64 0, .slice none 0 0, .int .i64 0] 30)))
  clear H5
  have H8 := Lib.hid (keep2 (al ((w.alloc (.cells #[.int .i64 t, .slice sa L.length sc, .int .i64 f, .slice va l.length vc, .int .i64 dn] 30)).alloc (.cells #[.int .i64 a, .int .i64 b, .int .i64 c, .int .i64 d] 32)) (.cells #[.int .i64 0, .slice none 0 0, .int .i64 0, .slice none 0 0, .int .i64 0] 30)) H4.out)
  clear H4
  have H9 := Lib.hid (Cs.new ((w.alloc (.cells #[.int .i64 t, .slice sa L.length sc, .int .i64 f, .slice va l.length vc, .int .i64 dn] 30)).alloc (.cells #[.int .i64 a, .int .i64 b, .int .i64 c, .int .i64 d] 32)) (w.heap.size + 1 + 1) #[.int .i64 0, .slice none 0 0, .int .i64 0, .slice none 0 0, .int .i64 0] 30 (by simp))
  go_enter Try.func14, Try.ntmps14
  have xR0 : (((w.alloc (.cells #[.int .i64 t, .slice sa L.length sc, .int .i64 f, .slice va l.length vc, .int .i64 dn] 30)).alloc (.cells #[.int .i64 a, .int .i64 b, .int .i64 c, .int .i64 d] 32)).alloc (.cells #[.int .i64 0, .slice none 0 0, .int .i64 0, .slice none 0 0, .int .i64 0] 30)).cell? ⟨(w.heap.size), 0, none⟩ = some (.int .i64 t) := H6.out.c 0 rfl
  have xR1 : (((w.alloc (.cells #[.int .i64 t, .slice sa L.length sc, .int .i64 f, .slice va l.length vc, .int .i64 dn] 30)).alloc (.cells #[.int .i64 a, .int .i64 b, .int .i64 c, .int .i64 d] 32)).alloc (.cells #[.int .i64 0, .slice none 0 0, .int .i64 0, .slice none 0 0, .int .i64 0] 30)).cell? ⟨(w.heap.size), 1, none⟩ = some (.slice sa L.length sc) := H6.out.c 1 rfl
  have xR2 : (((w.alloc (.cells #[.int .i64 t, .slice sa L.length sc, .int .i64 f, .slice va l.length vc, .int .i64 dn] 30)).alloc (.cells #[.int .i64 a, .int .i64 b, .int .i64 c, .int .i64 d] 32)).alloc (.cells #[.int .i64 0, .slice none 0 0, .int .i64 0, .slice none 0 0, .int .i64 0] 30)).cell? ⟨(w.heap.size), 2, none⟩ = some (.int .i64 f) := H6.out.c 2 rfl
  have xR3 : (((w.alloc (.cells #[.int .i64 t, .slice sa L.length sc, .int .i64 f, .slice va l.length vc, .int .i64 dn] 30)).alloc (.cells #[.int .i64 a, .int .i64 b, .int .i64 c, .int .i64 d] 32)).alloc (.cells #[.int .i64 0, .slice none 0 0, .int .i64 0, .slice none 0 0, .int .i64 0] 30)).cell? ⟨(w.heap.size), 3, none⟩ = some (.slice va l.length vc) := H6.out.c 3 rfl
  have xR4 : (((w.alloc (.cells #[.int .i64 t, .slice sa L.length sc, .int .i64 f, .slice va l.length vc, .int .i64 dn] 30)).alloc (.cells #[.int .i64 a, .int .i64 b, .int .i64 c, .int .i64 d] 32)).alloc (.cells #[.int .i64 0, .slice none 0 0, .int .i64 0, .slice none 0 0, .int .i64 0] 30)).cell? ⟨(w.heap.size), 4, none⟩ = some (.int .i64 dn) := H6.out.c 4 rfl
  have zR : (w.heap.size) < (((w.alloc (.cells #[.int .i64 t, .slice sa L.length sc, .int .i64 f, .slice va l.length vc, .int .i64 dn] 30)).alloc (.cells #[.int .i64 a, .int .i64 b, .int .i64 c, .int .i64 d] 32)).alloc (.cells #[.int .i64 0, .slice none 0 0, .int .i64 0, .slice none 0 0, .int .i64 0] 30)).heap.size := H6.out.2.2
  go_wp2_with fail
  refine (rrecv_win t f dn sa va sc vc L l _ (HS.out.step H8.out) HCP.out (HV.out.step H8.out) HWF.out _ HRV.out).mono ?_
  rintro e u1 ⟨rfl, b1⟩
  clear xR0 xR1 xR2 xR3 xR4 zR
  have H10 := Lib.hid (H6.out.step b1)
  clear H6
  have H11 := Lib.hid (H7.out.step b1)
  clear H7
  have H12 := Lib.hid (H9.out.step b1)
  clear H9
  have H13 := Lib.hid (keep2 b1 H8.out)
  clear H8
  clear b1
  have xO0 : u1.cell? ⟨(w.heap.size + 1), 0, none⟩ = some (.int .i64 a) := H11.out.c 0 rfl
  have xO1 : u1.cell? ⟨(w.heap.size + 1), 1, none⟩ = some (.int .i64 b) := H11.out.c 1 rfl
  have xO2 : u1.cell? ⟨(w.heap.size + 1), 2, none⟩ = some (.int .i64 c) := H11.out.c 2 rfl
  have xO3 : u1.cell? ⟨(w.heap.size + 1), 3, none⟩ = some (.int .i64 d) := H11.out.c 3 rfl
  have zO : (w.heap.size + 1) < u1.heap.size := H11.out.2.2
  have xR0 : u1.cell? ⟨(w.heap.size), 0, none⟩ = some (.int .i64 t) := H10.out.c 0 rfl
  have xR1 : u1.cell? ⟨(w.heap.size), 1, none⟩ = some (.slice sa L.length sc) := H10.out.c 1 rfl
  have xR2 : u1.cell? ⟨(w.heap.size), 2, none⟩ = some (.int .i64 f) := H10.out.c 2 rfl
  have xR3 : u1.cell? ⟨(w.heap.size), 3, none⟩ = some (.slice va l.length vc) := H10.out.c 3 rfl
  have xR4 : u1.cell? ⟨(w.heap.size), 4, none⟩ = some (.int .i64 dn) := H10.out.c 4 rfl
  have zR : (w.heap.size) < u1.heap.size := H10.out.2.2
  go_wp2_with fail
  refine (rorder_any a b c d _ HOP.out _).mono ?_
  rintro e u2 ⟨rfl, b2⟩
  clear xO0 xO1 xO2 xO3 zO xR0 xR1 xR2 xR3 xR4 zR
  have H14 := Lib.hid (H10.out.step b2)
  clear H10
  have H15 := Lib.hid (H11.out.step b2)
  clear H11
  have H16 := Lib.hid (H12.out.step b2)
  clear H12
  have H17 := Lib.hid (keep2 b2 H13.out)
  clear H13
  clear b2
  have xR0 : u2.cell? ⟨(w.heap.size), 0, none⟩ = some (.int .i64 t) := H14.out.c 0 rfl
  have xR1 : u2.cell? ⟨(w.heap.size), 1, none⟩ = some (.slice sa L.length sc) := H14.out.c 1 rfl
  have xR2 : u2.cell? ⟨(w.heap.size), 2, none⟩ = some (.int .i64 f) := H14.out.c 2 rfl
  have xR3 : u2.cell? ⟨(w.heap.size), 3, none⟩ = some (.slice va l.length vc) := H14.out.c 3 rfl
  have xR4 : u2.cell? ⟨(w.heap.size), 4, none⟩ = some (.int .i64 dn) := H14.out.c 4 rfl
  have zR : (w.heap.size) < u2.heap.size := H14.out.2.2
  have xO0 : u2.cell? ⟨(w.heap.size + 1), 0, none⟩ = some (.int .i64 a) := H15.out.c 0 rfl
  have xO1 : u2.cell? ⟨(w.heap.size + 1), 1, none⟩ = some (.int .i64 b) := H15.out.c 1 rfl
  have xO2 : u2.cell? ⟨(w.heap.size + 1), 2, none⟩ = some (.int .i64 c) := H15.out.c 2 rfl
  have xO3 : u2.cell? ⟨(w.heap.size + 1), 3, none⟩ = some (.int .i64 d) := H15.out.c 3 rfl
  have zO : (w.heap.size + 1) < u2.heap.size := H15.out.2.2
  go_wp2_with fail
  refine (rknown_over t f dn a b c d sa va sc vc L l _ (HS.out.step H17.out) HK.out).mono ?_
  rintro e u3 ⟨rfl, b3⟩
  clear xR0 xR1 xR2 xR3 xR4 zR xO0 xO1 xO2 xO3 zO
  have H18 := Lib.hid (H14.out.step b3)
  clear H14
  have H19 := Lib.hid (H15.out.step b3)
  clear H15
  have H20 := Lib.hid (H16.out.step b3)
  clear H16
  have H21 := Lib.hid (keep2 b3 H17.out)
  clear H17
  clear b3
  have xR0 : u3.cell? ⟨(w.heap.size), 0, none⟩ = some (.int .i64 t) := H18.out.c 0 rfl
  have xR1 : u3.cell? ⟨(w.heap.size), 1, none⟩ = some (.slice sa L.length sc) := H18.out.c 1 rfl
  have xR2 : u3.cell? ⟨(w.heap.size), 2, none⟩ = some (.int .i64 f) := H18.out.c 2 rfl
  have xR3 : u3.cell? ⟨(w.heap.size), 3, none⟩ = some (.slice va l.length vc) := H18.out.c 3 rfl
  have xR4 : u3.cell? ⟨(w.heap.size), 4, none⟩ = some (.int .i64 dn) := H18.out.c 4 rfl
  have zR : (w.heap.size) < u3.heap.size := H18.out.2.2
  have xO0 : u3.cell? ⟨(w.heap.size + 1), 0, none⟩ = some (.int .i64 a) := H19.out.c 0 rfl
  have xO1 : u3.cell? ⟨(w.heap.size + 1), 1, none⟩ = some (.int .i64 b) := H19.out.c 1 rfl
  have xO2 : u3.cell? ⟨(w.heap.size + 1), 2, none⟩ = some (.int .i64 c) := H19.out.c 2 rfl
  have xO3 : u3.cell? ⟨(w.heap.size + 1), 3, none⟩ = some (.int .i64 d) := H19.out.c 3 rfl
  have zO : (w.heap.size + 1) < u3.heap.size := H19.out.2.2
  have xZ0 : u3.cell? ⟨(w.heap.size + 1 + 1), 0, none⟩ = some (.int .i64 0) := H20.out.c 0 rfl
  have xZ1 : u3.cell? ⟨(w.heap.size + 1 + 1), 1, none⟩ = some (.slice none 0 0) := H20.out.c 1 rfl
  have xZ2 : u3.cell? ⟨(w.heap.size + 1 + 1), 2, none⟩ = some (.int .i64 0) := H20.out.c 2 rfl
  have xZ3 : u3.cell? ⟨(w.heap.size + 1 + 1), 3, none⟩ = some (.slice none 0 0) := H20.out.c 3 rfl
  have xZ4 : u3.cell? ⟨(w.heap.size + 1 + 1), 4, none⟩ = some (.int .i64 0) := H20.out.c 4 rfl
  have zZ : (w.heap.size + 1 + 1) < u3.heap.size := H20.out.2.2
  have yz0 : u3.frozen? ⟨w.heap.size + 1 + 1, 0, none⟩ = false := H20.out.f 0 (by simp)
  have yz1 : u3.frozen? ⟨w.heap.size + 1 + 1, 1, none⟩ = false := H20.out.f 1 (by simp)
  have yz2 : u3.frozen? ⟨w.heap.size + 1 + 1, 2, none⟩ = false := H20.out.f 2 (by simp)
  have yz3 : u3.frozen? ⟨w.heap.size + 1 + 1, 3, none⟩ = false := H20.out.f 3 (by simp)
  have yz4 : u3.frozen? ⟨w.heap.size + 1 + 1, 4, none⟩ = false := H20.out.f 4 (by simp)
  go_wp2_with fail
  have HLE := Lib.hid (show w.heap.size ≤ w.heap.size + 1 + 1 by omega)
  refine (fun (h : ∀ V : World, Cs V (w.heap.size + 1 + 1) #[.int .i64 t, .slice sa L.length sc, .int .i64 f, .slice va l.length vc, .int .i64 dn] → Below w.heap.size w V → bodyPost Try.prog Try.f14 _ Exit.ret _ V) => h _ (Cs.set (Cs.set (Cs.set (Cs.set (Cs.set (H20.out) 0 (by simp) (.int .i64 t) (vs' := #[.int .i64 t, .slice none 0 0, .int .i64 0, .slice none 0 0, .int .i64 0]) rfl) 1 (by simp) (.slice sa L.length sc) (vs' := #[.int .i64 t, .slice sa L.length sc, .int .i64 0, .slice none 0 0, .int .i64 0]) rfl) 2 (by simp) (.int .i64 f) (vs' := #[.int .i64 t, .slice sa L.length sc, .int .i64 f, .slice none 0 0, .int .i64 0]) rfl) 3 (by simp) (.slice va l.length vc) (vs' := #[.int .i64 t, .slice sa L.length sc, .int .i64 f, .slice va l.length vc, .int .i64 0]) rfl) 4 (by simp) (.int .i64 dn) (vs' := #[.int .i64 t, .slice sa L.length sc, .int .i64 f, .slice va l.length vc, .int .i64 dn]) rfl) ((((((H21.out).setCell (p := ⟨w.heap.size + 1 + 1, 0, none⟩) HLE.out _).setCell (p := ⟨w.heap.size + 1 + 1, 1, none⟩) HLE.out _).setCell (p := ⟨w.heap.size + 1 + 1, 2, none⟩) HLE.out _).setCell (p := ⟨w.heap.size + 1 + 1, 3, none⟩) HLE.out _).setCell (p := ⟨w.heap.size + 1 + 1, 4, none⟩) HLE.out _)) ?_
  intro V hC hW
  have k0 : V.cell? ⟨w.heap.size + 1 + 1, 0, none⟩ = some (.int .i64 t) := hC.c 0 rfl
  have k1 : V.cell? ⟨w.heap.size + 1 + 1, 1, none⟩ = some (.slice sa L.length sc) := hC.c 1 rfl
  have k2 : V.cell? ⟨w.heap.size + 1 + 1, 2, none⟩ = some (.int .i64 f) := hC.c 2 rfl
  have k3 : V.cell? ⟨w.heap.size + 1 + 1, 3, none⟩ = some (.slice va l.length vc) := hC.c 3 rfl
  have k4 : V.cell? ⟨w.heap.size + 1 + 1, 4, none⟩ = some (.int .i64 dn) := hC.c 4 rfl
  exact bodyPost_ret (v := .tuple #[.agg #[.int .i64 t, .slice sa L.length sc, .int .i64 f, .slice va l.length vc, .int .i64 dn], .bool false, .int .i64 23]) (by simp [results, Try.results14, go_sem, k0, k1, k2, k3, k4]) rfl ⟨sc, vc, sa, va, rfl, HCP.out, HS.out.step hW, HV.out.step hW, hW⟩
set_option maxRecDepth 100000 in
set_option maxHeartbeats 8000000 in
theorem rreceive_low2 (t f dn a b c d : Int) (sa va : Option Addr) (sc vc : Nat) (L : List Bool) (l : List Int) (w : World) (hs : BosAt w (.slice sa L.length sc) L) (hc : L.length ≤ sc) (hv : IntsAt w (.slice va l.length vc) l) (hwf : WF t L) (hrv : rvB f l dn = true) (hop : orB a b c d = true) (hcl : c < l.length) (h4 : a ≤ t) (h5 : t - a < 16) (h7 : L.getD (t - a).toNat false = false) (h6 : b < f) :
    Calls Try.prog 14 #[.agg #[.int .i64 t, .slice sa L.length sc, .int .i64 f, .slice va l.length vc, .int .i64 dn], .agg #[.int .i64 a, .int .i64 b, .int .i64 c, .int .i64 d]] w (RrP w t L f l.length l dn false 23) := by
  have HS := Lib.hid hs
  have HV := Lib.hid hv
  have HCP := Lib.hid hc
  clear hs hv hc
  have HWF := Lib.hid hwf
  have HRV := Lib.hid hrv
  clear hwf hrv
  have HOP := Lib.hid hop
  clear hop
  have g1 : decide (c ≥ (l.length : Int)) = false := by simp; omega
  have g2 : decide ((l.length : Int) ≤ c) = false := by simp; omega
  have HWT := Lib.hid (And.intro HWF.out.2.1 HWF.out.2.2.1)
  have e16 : wrap64 (t - 16) = t - 16 := IntWalk.wrap64_in _ (by have := HWT.out; omega)
  clear hcl
  have HK := Lib.hid (And.intro h4 (And.intro h5 h7))
  have g3 : decide (a ≤ t - 16) = false := by simp; omega
  clear h4 h5 h7
  have l1 : decide (b < f) = true := decide_eq_true h6
  clear h6
  have H0 := Lib.hid (Below.refl w.heap.size w)
  have H1 := Lib.hid (keep2 (al w (.cells #[.int .i64 t, .slice sa L.length sc, .int .i64 f, .slice va l.length vc, .int .i64 dn] 30)) H0.out)
  clear H0
  have H2 := Lib.hid (Cs.new w (w.heap.size) #[.int .i64 t, .slice sa L.length sc, .int .i64 f, .slice va l.length vc, .int .i64 dn] 30 (by simp))
  have H3 := Lib.hid (H2.out.step (al (w.alloc (.cells #[.int .i64 t, .slice sa L.length sc, .int .i64 f, .slice va l.length vc, .int .i64 dn] 30)) (.cells #[.int .i64 a, .int .i64 b, .int .i64 c, .int .i64 d] 32)))
  clear H2
  have H4 := Lib.hid (keep2 (al (w.alloc (.cells #[.int .i64 t, .slice sa L.length sc, .int .i64 f, .slice va l.length vc, .int .i64 dn] 30)) (.cells #[.int .i64 a, .int .i64 b, .int .i64 c, .int .i64 d] 32)) H1.out)
  clear H1
  have H5 := Lib.hid (Cs.new (w.alloc (.cells #[.int .i64 t, .slice sa L.length sc, .int .i64 f, .slice va l.length vc, .int .i64 dn] 30)) (w.heap.size + 1) #[.int .i64 a, .int .i64 b, .int .i64 c, .int .i64 d] 32 (by simp))
  have H6 := Lib.hid (H3.out.step (al ((w.alloc (.cells #[.int .i64 t, .slice sa L.length sc, .int .i64 f, .slice va l.length vc, .int .i64 dn] 30)).alloc (.cells #[.int .i64 a, .int .i64 b, .int .i64 c, .int .i64 d] 32)) (.cells #[.int .i64 0, .slice none 0 0, .int .i64 0, .slice none 0 0, .int .i64 0] 30)))
  clear H3
  have H7 := Lib.hid (H5.out.step (al ((w.alloc (.cells #[.int .i64 t, .slice sa L.length sc, .int .i64 f, .slice va l.length vc, .int .i64 dn] 30)).alloc (.cells #[.int .i64 a, .int .i64 b, .int .i64 c, .int .i64 d] 32)) (.cells #[.int .i64 0, .slice none 0 0, .int .i64 0, .slice none 0 0, .int .i64 0] 30)))
  clear H5
  have H8 := Lib.hid (keep2 (al ((w.alloc (.cells #[.int .i64 t, .slice sa L.length sc, .int .i64 f, .slice va l.length vc, .int .i64 dn] 30)).alloc (.cells #[.int .i64 a, .int .i64 b, .int .i64 c, .int .i64 d] 32)) (.cells #[.int .i64 0, .slice none 0 0, .int .i64 0, .slice none 0 0, .int .i64 0] 30)) H4.out)
  clear H4
  have H9 := Lib.hid (Cs.new ((w.alloc (.cells #[.int .i64 t, .slice sa L.length sc, .int .i64 f, .slice va l.length vc, .int .i64 dn] 30)).alloc (.cells #[.int .i64 a, .int .i64 b, .int .i64 c, .int .i64 d] 32)) (w.heap.size + 1 + 1) #[.int .i64 0, .slice none 0 0, .int .i64 0, .slice none 0 0, .int .i64 0] 30 (by simp))
  go_enter Try.func14, Try.ntmps14
  have xR0 : (((w.alloc (.cells #[.int .i64 t, .slice sa L.length sc, .int .i64 f, .slice va l.length vc, .int .i64 dn] 30)).alloc (.cells #[.int .i64 a, .int .i64 b, .int .i64 c, .int .i64 d] 32)).alloc (.cells #[.int .i64 0, .slice none 0 0, .int .i64 0, .slice none 0 0, .int .i64 0] 30)).cell? ⟨(w.heap.size), 0, none⟩ = some (.int .i64 t) := H6.out.c 0 rfl
  have xR1 : (((w.alloc (.cells #[.int .i64 t, .slice sa L.length sc, .int .i64 f, .slice va l.length vc, .int .i64 dn] 30)).alloc (.cells #[.int .i64 a, .int .i64 b, .int .i64 c, .int .i64 d] 32)).alloc (.cells #[.int .i64 0, .slice none 0 0, .int .i64 0, .slice none 0 0, .int .i64 0] 30)).cell? ⟨(w.heap.size), 1, none⟩ = some (.slice sa L.length sc) := H6.out.c 1 rfl
  have xR2 : (((w.alloc (.cells #[.int .i64 t, .slice sa L.length sc, .int .i64 f, .slice va l.length vc, .int .i64 dn] 30)).alloc (.cells #[.int .i64 a, .int .i64 b, .int .i64 c, .int .i64 d] 32)).alloc (.cells #[.int .i64 0, .slice none 0 0, .int .i64 0, .slice none 0 0, .int .i64 0] 30)).cell? ⟨(w.heap.size), 2, none⟩ = some (.int .i64 f) := H6.out.c 2 rfl
  have xR3 : (((w.alloc (.cells #[.int .i64 t, .slice sa L.length sc, .int .i64 f, .slice va l.length vc, .int .i64 dn] 30)).alloc (.cells #[.int .i64 a, .int .i64 b, .int .i64 c, .int .i64 d] 32)).alloc (.cells #[.int .i64 0, .slice none 0 0, .int .i64 0, .slice none 0 0, .int .i64 0] 30)).cell? ⟨(w.heap.size), 3, none⟩ = some (.slice va l.length vc) := H6.out.c 3 rfl
  have xR4 : (((w.alloc (.cells #[.int .i64 t, .slice sa L.length sc, .int .i64 f, .slice va l.length vc, .int .i64 dn] 30)).alloc (.cells #[.int .i64 a, .int .i64 b, .int .i64 c, .int .i64 d] 32)).alloc (.cells #[.int .i64 0, .slice none 0 0, .int .i64 0, .slice none 0 0, .int .i64 0] 30)).cell? ⟨(w.heap.size), 4, none⟩ = some (.int .i64 dn) := H6.out.c 4 rfl
  have zR : (w.heap.size) < (((w.alloc (.cells #[.int .i64 t, .slice sa L.length sc, .int .i64 f, .slice va l.length vc, .int .i64 dn] 30)).alloc (.cells #[.int .i64 a, .int .i64 b, .int .i64 c, .int .i64 d] 32)).alloc (.cells #[.int .i64 0, .slice none 0 0, .int .i64 0, .slice none 0 0, .int .i64 0] 30)).heap.size := H6.out.2.2
  go_wp2_with fail
  refine (rrecv_win t f dn sa va sc vc L l _ (HS.out.step H8.out) HCP.out (HV.out.step H8.out) HWF.out _ HRV.out).mono ?_
  rintro e u1 ⟨rfl, b1⟩
  clear xR0 xR1 xR2 xR3 xR4 zR
  have H10 := Lib.hid (H6.out.step b1)
  clear H6
  have H11 := Lib.hid (H7.out.step b1)
  clear H7
  have H12 := Lib.hid (H9.out.step b1)
  clear H9
  have H13 := Lib.hid (keep2 b1 H8.out)
  clear H8
  clear b1
  have xO0 : u1.cell? ⟨(w.heap.size + 1), 0, none⟩ = some (.int .i64 a) := H11.out.c 0 rfl
  have xO1 : u1.cell? ⟨(w.heap.size + 1), 1, none⟩ = some (.int .i64 b) := H11.out.c 1 rfl
  have xO2 : u1.cell? ⟨(w.heap.size + 1), 2, none⟩ = some (.int .i64 c) := H11.out.c 2 rfl
  have xO3 : u1.cell? ⟨(w.heap.size + 1), 3, none⟩ = some (.int .i64 d) := H11.out.c 3 rfl
  have zO : (w.heap.size + 1) < u1.heap.size := H11.out.2.2
  have xR0 : u1.cell? ⟨(w.heap.size), 0, none⟩ = some (.int .i64 t) := H10.out.c 0 rfl
  have xR1 : u1.cell? ⟨(w.heap.size), 1, none⟩ = some (.slice sa L.length sc) := H10.out.c 1 rfl
  have xR2 : u1.cell? ⟨(w.heap.size), 2, none⟩ = some (.int .i64 f) := H10.out.c 2 rfl
  have xR3 : u1.cell? ⟨(w.heap.size), 3, none⟩ = some (.slice va l.length vc) := H10.out.c 3 rfl
  have xR4 : u1.cell? ⟨(w.heap.size), 4, none⟩ = some (.int .i64 dn) := H10.out.c 4 rfl
  have zR : (w.heap.size) < u1.heap.size := H10.out.2.2
  go_wp2_with fail
  refine (rorder_any a b c d _ HOP.out _).mono ?_
  rintro e u2 ⟨rfl, b2⟩
  clear xO0 xO1 xO2 xO3 zO xR0 xR1 xR2 xR3 xR4 zR
  have H14 := Lib.hid (H10.out.step b2)
  clear H10
  have H15 := Lib.hid (H11.out.step b2)
  clear H11
  have H16 := Lib.hid (H12.out.step b2)
  clear H12
  have H17 := Lib.hid (keep2 b2 H13.out)
  clear H13
  clear b2
  have xR0 : u2.cell? ⟨(w.heap.size), 0, none⟩ = some (.int .i64 t) := H14.out.c 0 rfl
  have xR1 : u2.cell? ⟨(w.heap.size), 1, none⟩ = some (.slice sa L.length sc) := H14.out.c 1 rfl
  have xR2 : u2.cell? ⟨(w.heap.size), 2, none⟩ = some (.int .i64 f) := H14.out.c 2 rfl
  have xR3 : u2.cell? ⟨(w.heap.size), 3, none⟩ = some (.slice va l.length vc) := H14.out.c 3 rfl
  have xR4 : u2.cell? ⟨(w.heap.size), 4, none⟩ = some (.int .i64 dn) := H14.out.c 4 rfl
  have zR : (w.heap.size) < u2.heap.size := H14.out.2.2
  have xO0 : u2.cell? ⟨(w.heap.size + 1), 0, none⟩ = some (.int .i64 a) := H15.out.c 0 rfl
  have xO1 : u2.cell? ⟨(w.heap.size + 1), 1, none⟩ = some (.int .i64 b) := H15.out.c 1 rfl
  have xO2 : u2.cell? ⟨(w.heap.size + 1), 2, none⟩ = some (.int .i64 c) := H15.out.c 2 rfl
  have xO3 : u2.cell? ⟨(w.heap.size + 1), 3, none⟩ = some (.int .i64 d) := H15.out.c 3 rfl
  have zO : (w.heap.size + 1) < u2.heap.size := H15.out.2.2
  go_wp2_with fail
  refine (rknown_in t f dn a b c d sa va sc vc L l _ (HS.out.step H17.out) HK.out.1 HK.out.2.1 HWT.out (orB_iff HOP.out).1.1 HWF.out.1 false HK.out.2.2).mono ?_
  rintro e u3 ⟨rfl, b3⟩
  clear xR0 xR1 xR2 xR3 xR4 zR xO0 xO1 xO2 xO3 zO
  have H18 := Lib.hid (H14.out.step b3)
  clear H14
  have H19 := Lib.hid (H15.out.step b3)
  clear H15
  have H20 := Lib.hid (H16.out.step b3)
  clear H16
  have H21 := Lib.hid (keep2 b3 H17.out)
  clear H17
  clear b3
  have xR0 : u3.cell? ⟨(w.heap.size), 0, none⟩ = some (.int .i64 t) := H18.out.c 0 rfl
  have xR1 : u3.cell? ⟨(w.heap.size), 1, none⟩ = some (.slice sa L.length sc) := H18.out.c 1 rfl
  have xR2 : u3.cell? ⟨(w.heap.size), 2, none⟩ = some (.int .i64 f) := H18.out.c 2 rfl
  have xR3 : u3.cell? ⟨(w.heap.size), 3, none⟩ = some (.slice va l.length vc) := H18.out.c 3 rfl
  have xR4 : u3.cell? ⟨(w.heap.size), 4, none⟩ = some (.int .i64 dn) := H18.out.c 4 rfl
  have zR : (w.heap.size) < u3.heap.size := H18.out.2.2
  have xO0 : u3.cell? ⟨(w.heap.size + 1), 0, none⟩ = some (.int .i64 a) := H19.out.c 0 rfl
  have xO1 : u3.cell? ⟨(w.heap.size + 1), 1, none⟩ = some (.int .i64 b) := H19.out.c 1 rfl
  have xO2 : u3.cell? ⟨(w.heap.size + 1), 2, none⟩ = some (.int .i64 c) := H19.out.c 2 rfl
  have xO3 : u3.cell? ⟨(w.heap.size + 1), 3, none⟩ = some (.int .i64 d) := H19.out.c 3 rfl
  have zO : (w.heap.size + 1) < u3.heap.size := H19.out.2.2
  have xZ0 : u3.cell? ⟨(w.heap.size + 1 + 1), 0, none⟩ = some (.int .i64 0) := H20.out.c 0 rfl
  have xZ1 : u3.cell? ⟨(w.heap.size + 1 + 1), 1, none⟩ = some (.slice none 0 0) := H20.out.c 1 rfl
  have xZ2 : u3.cell? ⟨(w.heap.size + 1 + 1), 2, none⟩ = some (.int .i64 0) := H20.out.c 2 rfl
  have xZ3 : u3.cell? ⟨(w.heap.size + 1 + 1), 3, none⟩ = some (.slice none 0 0) := H20.out.c 3 rfl
  have xZ4 : u3.cell? ⟨(w.heap.size + 1 + 1), 4, none⟩ = some (.int .i64 0) := H20.out.c 4 rfl
  have zZ : (w.heap.size + 1 + 1) < u3.heap.size := H20.out.2.2
  have yz0 : u3.frozen? ⟨w.heap.size + 1 + 1, 0, none⟩ = false := H20.out.f 0 (by simp)
  have yz1 : u3.frozen? ⟨w.heap.size + 1 + 1, 1, none⟩ = false := H20.out.f 1 (by simp)
  have yz2 : u3.frozen? ⟨w.heap.size + 1 + 1, 2, none⟩ = false := H20.out.f 2 (by simp)
  have yz3 : u3.frozen? ⟨w.heap.size + 1 + 1, 3, none⟩ = false := H20.out.f 3 (by simp)
  have yz4 : u3.frozen? ⟨w.heap.size + 1 + 1, 4, none⟩ = false := H20.out.f 4 (by simp)
  go_wp2_with fail
  have HLE := Lib.hid (show w.heap.size ≤ w.heap.size + 1 + 1 by omega)
  refine (fun (h : ∀ V : World, Cs V (w.heap.size + 1 + 1) #[.int .i64 t, .slice sa L.length sc, .int .i64 f, .slice va l.length vc, .int .i64 dn] → Below w.heap.size w V → bodyPost Try.prog Try.f14 _ Exit.ret _ V) => h _ (Cs.set (Cs.set (Cs.set (Cs.set (Cs.set (H20.out) 0 (by simp) (.int .i64 t) (vs' := #[.int .i64 t, .slice none 0 0, .int .i64 0, .slice none 0 0, .int .i64 0]) rfl) 1 (by simp) (.slice sa L.length sc) (vs' := #[.int .i64 t, .slice sa L.length sc, .int .i64 0, .slice none 0 0, .int .i64 0]) rfl) 2 (by simp) (.int .i64 f) (vs' := #[.int .i64 t, .slice sa L.length sc, .int .i64 f, .slice none 0 0, .int .i64 0]) rfl) 3 (by simp) (.slice va l.length vc) (vs' := #[.int .i64 t, .slice sa L.length sc, .int .i64 f, .slice va l.length vc, .int .i64 0]) rfl) 4 (by simp) (.int .i64 dn) (vs' := #[.int .i64 t, .slice sa L.length sc, .int .i64 f, .slice va l.length vc, .int .i64 dn]) rfl) ((((((H21.out).setCell (p := ⟨w.heap.size + 1 + 1, 0, none⟩) HLE.out _).setCell (p := ⟨w.heap.size + 1 + 1, 1, none⟩) HLE.out _).setCell (p := ⟨w.heap.size + 1 + 1, 2, none⟩) HLE.out _).setCell (p := ⟨w.heap.size + 1 + 1, 3, none⟩) HLE.out _).setCell (p := ⟨w.heap.size + 1 + 1, 4, none⟩) HLE.out _)) ?_
  intro V hC hW
  have k0 : V.cell? ⟨w.heap.size + 1 + 1, 0, none⟩ = some (.int .i64 t) := hC.c 0 rfl
  have k1 : V.cell? ⟨w.heap.size + 1 + 1, 1, none⟩ = some (.slice sa L.length sc) := hC.c 1 rfl
  have k2 : V.cell? ⟨w.heap.size + 1 + 1, 2, none⟩ = some (.int .i64 f) := hC.c 2 rfl
  have k3 : V.cell? ⟨w.heap.size + 1 + 1, 3, none⟩ = some (.slice va l.length vc) := hC.c 3 rfl
  have k4 : V.cell? ⟨w.heap.size + 1 + 1, 4, none⟩ = some (.int .i64 dn) := hC.c 4 rfl
  exact bodyPost_ret (v := .tuple #[.agg #[.int .i64 t, .slice sa L.length sc, .int .i64 f, .slice va l.length vc, .int .i64 dn], .bool false, .int .i64 23]) (by simp [results, Try.results14, go_sem, k0, k1, k2, k3, k4]) rfl ⟨sc, vc, sa, va, rfl, HCP.out, HS.out.step hW, HV.out.step hW, hW⟩
end Go.Proofs.Ytkamkkjijjkfdaa
