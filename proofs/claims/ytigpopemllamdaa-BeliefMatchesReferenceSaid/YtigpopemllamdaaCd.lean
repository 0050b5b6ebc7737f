/- The law 'BeliefLate'. -/
import Derived.Test.YtigpopemllamdaaCc
import Derived.Deep.CutRange
namespace Go.Proofs.Ytigpopemllamdaa
open Go.RowKit

theorem fsP_neg {p : Od → Bool} {L : List Od} (h : ¬ 0 ≤ fsP p L) : fsI p L 0 = none := by
  unfold fsP at h
  cases hf : fsI p L 0 with
  | none => rfl
  | some i => rw [hf] at h; exact absurd (show (0 : Int) ≤ (i : Int) by omega) h
theorem isW_len {V : List Int} {L : List Od} (h : isW V L = true) : L.length ≤ 20 ∧ V.length ≤ 16 ∧ V = rvl L := by
  unfold isW at h
  simp only [Bool.and_eq_true, decide_eq_true_eq, beq_iff_eq] at h
  refine ⟨h.1.1.1.2, ?_, h.2⟩
  rw [h.2]
  exact rvu_len L 16
theorem isV_of {V : List Int} {L : List Od} (h : isW V L = true) : isV V L = true := by rw [isV_W]; exact h
set_option maxRecDepth 100000 in
set_option maxHeartbeats 8000000 in
theorem late_no (va : Option Addr) (vc : Nat) (V : List Int) (sa : Option Addr) (sc : Nat) (L : List Od) (q : Int) (w : World) (h : Rb V L va vc sa sc w) (h9 : L.length ≤ maxLen) (h8 : V.length ≤ maxLen) (hw : isW V L = false) :
    Calls Try.prog 9 #[.agg #[.slice va V.length vc, .slice sa L.length sc], .int .i64 q] w fun e w' => e = .returned (.bool true) ∧ Below w.heap.size w w' := by
  have H0 := Lib.hid (Below.refl w.heap.size w)
  have H1 := Lib.hid (h)
  clear h
  have H2 := Lib.hid (H1.out.step (al w (.cells #[.slice va V.length vc, .slice sa L.length sc] 25)))
  clear H1
  have H3 := Lib.hid (keep2 (al w (.cells #[.slice va V.length vc, .slice sa L.length sc] 25)) H0.out)
  clear H0
  have H4 := Lib.hid (Cs.new w (w.heap.size) #[.slice va V.length vc, .slice sa L.length sc] 25 (by simp))
  go_enter Try.func9, Try.ntmps9
  go_wp2_with fail
  refine (head_any _).mono ?_
  rintro e u1 ⟨rfl, b1⟩
  have H5 := Lib.hid (H2.out.step b1)
  clear H2
  have H6 := Lib.hid (H4.out.step b1)
  clear H4
  have H7 := Lib.hid (keep2 b1 H3.out)
  clear H3
  clear b1
  have xb0 : u1.cell? ⟨(w.heap.size), 0, none⟩ = some (.slice va V.length vc) := H6.out.c 0 rfl
  have xb1 : u1.cell? ⟨(w.heap.size), 1, none⟩ = some (.slice sa L.length sc) := H6.out.c 1 rfl
  have zb : (w.heap.size) < u1.heap.size := H6.out.2.2
  go_wp2_with fail
  refine (validR_any va vc V sa sc L _ H5.out h9 h8).mono ?_
  rintro e u2 ⟨rfl, b2⟩
  clear xb0 xb1 zb
  have H8 := Lib.hid (H5.out.step b2)
  clear H5
  have H9 := Lib.hid (H6.out.step b2)
  clear H6
  have H10 := Lib.hid (keep2 b2 H7.out)
  clear H7
  clear b2
  rw [hw]
  go_wp2
  go_ret
  exact ⟨rfl, H10.out⟩
set_option maxRecDepth 100000 in
set_option maxHeartbeats 8000000 in
theorem late_hit (va : Option Addr) (vc : Nat) (V : List Int) (sa : Option Addr) (sc : Nat) (L : List Od) (q : Int) (w : World) (h : Rb V L va vc sa sc w) (h9 : L.length ≤ maxLen) (h8 : V.length ≤ maxLen) (hw : isW V L = true) (x : Nat) (hx : fsP (cfP q) L = x) :
    Calls Try.prog 9 #[.agg #[.slice va V.length vc, .slice sa L.length sc], .int .i64 q] w fun e w' => e = .returned (.bool true) ∧ Below w.heap.size w w' := by
  have HFX := Lib.hid hx
  clear hx
  have H0 := Lib.hid (Below.refl w.heap.size w)
  have H1 := Lib.hid (h)
  clear h
  have H2 := Lib.hid (H1.out.step (al w (.cells #[.slice va V.length vc, .slice sa L.length sc] 25)))
  clear H1
  have H3 := Lib.hid (keep2 (al w (.cells #[.slice va V.length vc, .slice sa L.length sc] 25)) H0.out)
  clear H0
  have H4 := Lib.hid (Cs.new w (w.heap.size) #[.slice va V.length vc, .slice sa L.length sc] 25 (by simp))
  go_enter Try.func9, Try.ntmps9
  go_wp2_with fail
  refine (head_any _).mono ?_
  rintro e u1 ⟨rfl, b1⟩
  have H5 := Lib.hid (H2.out.step b1)
  clear H2
  have H6 := Lib.hid (H4.out.step b1)
  clear H4
  have H7 := Lib.hid (keep2 b1 H3.out)
  clear H3
  clear b1
  have xb0 : u1.cell? ⟨(w.heap.size), 0, none⟩ = some (.slice va V.length vc) := H6.out.c 0 rfl
  have xb1 : u1.cell? ⟨(w.heap.size), 1, none⟩ = some (.slice sa L.length sc) := H6.out.c 1 rfl
  have zb : (w.heap.size) < u1.heap.size := H6.out.2.2
  go_wp2_with fail
  refine (validR_any va vc V sa sc L _ H5.out h9 h8).mono ?_
  rintro e u2 ⟨rfl, b2⟩
  clear xb0 xb1 zb
  have H8 := Lib.hid (H5.out.step b2)
  clear H5
  have H9 := Lib.hid (H6.out.step b2)
  clear H6
  have H10 := Lib.hid (keep2 b2 H7.out)
  clear H7
  clear b2
  rw [hw]
  have xb0 : u2.cell? ⟨(w.heap.size), 0, none⟩ = some (.slice va V.length vc) := H9.out.c 0 rfl
  have xb1 : u2.cell? ⟨(w.heap.size), 1, none⟩ = some (.slice sa L.length sc) := H9.out.c 1 rfl
  have zb : (w.heap.size) < u2.heap.size := H9.out.2.2
  go_wp2_with fail
  refine (find_any _ sa sc L q _ H8.out.2 h9).mono ?_
  rintro e u3 ⟨rfl, b3⟩
  clear xb0 xb1 zb
  have H11 := Lib.hid (H8.out.step b3)
  clear H8
  have H12 := Lib.hid (H9.out.step b3)
  clear H9
  have H13 := Lib.hid (keep2 b3 H10.out)
  clear H10
  clear b3
  rw [HFX.out]
  go_wp2
  go_ret
  exact ⟨rfl, H13.out⟩
set_option maxRecDepth 100000 in
set_option maxHeartbeats 8000000 in
theorem late_go (va : Option Addr) (vc : Nat) (V : List Int) (sa : Option Addr) (sc : Nat) (L : List Od) (q : Int) (w : World) (h : Rb V L va vc sa sc w) (h9 : L.length ≤ maxLen) (h8 : V.length ≤ maxLen) (hw : isW V L = true) (hx : fsP (cfP q) L = -1) :
    Calls Try.prog 9 #[.agg #[.slice va V.length vc, .slice sa L.length sc], .int .i64 q] w fun e w' => e = .returned (.bool true) ∧ Below w.heap.size w w' := by
  have HFX := Lib.hid hx
  have HCE := Lib.hid (show cnE V L q = 27 by rw [cnE_W, if_pos hw]; unfold cfE; rw [fsP_neg (by rw [hx]; omega)])
  have HSL := Lib.hid (show L.length ≤ 300 by have := (isW_len hw).1; omega)
  have HSV := Lib.hid (show V.length ≤ 300 by have := (isW_len hw).2.1; omega)
  clear hx
  have H0 := Lib.hid (Below.refl w.heap.size w)
  have H1 := Lib.hid (h)
  clear h
  have H2 := Lib.hid (H1.out.step (al w (.cells #[.slice va V.length vc, .slice sa L.length sc] 25)))
  clear H1
  have H3 := Lib.hid (keep2 (al w (.cells #[.slice va V.length vc, .slice sa L.length sc] 25)) H0.out)
  clear H0
  have H4 := Lib.hid (Cs.new w (w.heap.size) #[.slice va V.length vc, .slice sa L.length sc] 25 (by simp))
  go_enter Try.func9, Try.ntmps9
  go_wp2_with fail
  refine (head_any _).mono ?_
  rintro e u1 ⟨rfl, b1⟩
  have H5 := Lib.hid (H2.out.step b1)
  clear H2
  have H6 := Lib.hid (H4.out.step b1)
  clear H4
  have H7 := Lib.hid (keep2 b1 H3.out)
  clear H3
  clear b1
  have xb0 : u1.cell? ⟨(w.heap.size), 0, none⟩ = some (.slice va V.length vc) := H6.out.c 0 rfl
  have xb1 : u1.cell? ⟨(w.heap.size), 1, none⟩ = some (.slice sa L.length sc) := H6.out.c 1 rfl
  have zb : (w.heap.size) < u1.heap.size := H6.out.2.2
  go_wp2_with fail
  refine (validR_any va vc V sa sc L _ H5.out h9 h8).mono ?_
  rintro e u2 ⟨rfl, b2⟩
  clear xb0 xb1 zb
  have H8 := Lib.hid (H5.out.step b2)
  clear H5
  have H9 := Lib.hid (H6.out.step b2)
  clear H6
  have H10 := Lib.hid (keep2 b2 H7.out)
  clear H7
  clear b2
  rw [hw]
  have xb0 : u2.cell? ⟨(w.heap.size), 0, none⟩ = some (.slice va V.length vc) := H9.out.c 0 rfl
  have xb1 : u2.cell? ⟨(w.heap.size), 1, none⟩ = some (.slice sa L.length sc) := H9.out.c 1 rfl
  have zb : (w.heap.size) < u2.heap.size := H9.out.2.2
  go_wp2_with fail
  refine (find_any _ sa sc L q _ H8.out.2 h9).mono ?_
  rintro e u3 ⟨rfl, b3⟩
  clear xb0 xb1 zb
  have H11 := Lib.hid (H8.out.step b3)
  clear H8
  have H12 := Lib.hid (H9.out.step b3)
  clear H9
  have H13 := Lib.hid (keep2 b3 H10.out)
  clear H10
  clear b3
  rw [HFX.out]
  have xb0 : u3.cell? ⟨(w.heap.size), 0, none⟩ = some (.slice va V.length vc) := H12.out.c 0 rfl
  have xb1 : u3.cell? ⟨(w.heap.size), 1, none⟩ = some (.slice sa L.length sc) := H12.out.c 1 rfl
  have zb : (w.heap.size) < u3.heap.size := H12.out.2.2
  go_wp2_with fail
  refine (confirmed_q (V' := []) (M' := []) q (E := 27) HCE.out rfl rfl va vc sa sc _ H11.out HSL.out HSV.out).mono ?_
  rintro e u4 ⟨ua, uc, fa, fc, rfl, b4, -⟩
  clear xb0 xb1 zb
  have H14 := Lib.hid (H11.out.step b4)
  clear H11
  have H15 := Lib.hid (H12.out.step b4)
  clear H12
  have H16 := Lib.hid (keep2 b4 H13.out)
  clear H13
  clear b4
  go_wp2
  go_ret
  exact ⟨rfl, keep2 (al _ _) H16.out⟩
set_option maxRecDepth 100000 in
set_option maxHeartbeats 8000000 in
theorem late_any (va : Option Addr) (vc : Nat) (V : List Int) (sa : Option Addr) (sc : Nat) (L : List Od) (q : Int) (w : World) (h : Rb V L va vc sa sc w) (h9 : L.length ≤ maxLen) (h8 : V.length ≤ maxLen)  :
    Calls Try.prog 9 #[.agg #[.slice va V.length vc, .slice sa L.length sc], .int .i64 q] w fun e w' => e = .returned (.bool true) ∧ Below w.heap.size w w' := by
  cases hw : isW V L
  · exact late_no va vc V sa sc L q w h h9 h8 hw
  · by_cases hx : 0 ≤ fsP (cfP q) L
    · exact late_hit va vc V sa sc L q w h h9 h8 hw (fsP (cfP q) L).toNat (by omega)
    · refine late_go va vc V sa sc L q w h h9 h8 hw ?_
      unfold fsP
      rw [fsP_neg hx]
end Go.Proofs.Ytigpopemllamdaa
