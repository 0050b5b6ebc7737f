/- Beliefs, the reference: 'Reported'. -/
import Derived.Test.YtigpopemllamdaaEd
namespace Go.Proofs.Ytigpopemllamdaa
open Go.RowKit

theorem rp_app {t : Int} {L : List Od} {i : Nat} (h : i < L.length) (hr : rpT t (L.getD i zO) = true) : (L.take (i + 1)).filter (rpT t) = (L.take i).filter (rpT t) ++ [L.getD i zO] := by
  have e : L.take (i + 1) = L.take i ++ [L.getD i zO] := by rw [List.take_add_one, od_get h]; rfl
  rw [e, List.filter_append, List.filter_cons, if_pos hr]; rfl
theorem rp_no {t : Int} {L : List Od} {i : Nat} (h : i < L.length) (hr : rpT t (L.getD i zO) = false) : (L.take (i + 1)).filter (rpT t) = (L.take i).filter (rpT t) := by
  have e : L.take (i + 1) = L.take i ++ [L.getD i zO] := by rw [List.take_add_one, od_get h]; rfl
  rw [e, List.filter_append, List.filter_cons, if_neg (by rw [hr]; exact Bool.false_ne_true)]; simp
theorem rp_any {t : Int} {L : List Od} {i : Nat} (h : i < L.length) (hr : (stB (L.getD i zO) && rpT t (L.getD i zO)) = false) (hp : ((L.take i).filter stB).any (rpT t) = false) : ((L.take (i + 1)).filter stB).any (rpT t) = false := by
  have e : L.take (i + 1) = L.take i ++ [L.getD i zO] := by rw [List.take_add_one, od_get h]; rfl
  rw [e, List.filter_append, List.any_append, hp, Bool.false_or, List.filter_cons]
  cases hs : stB (L.getD i zO)
  · rw [if_neg (by simp)]; rfl
  · rw [if_pos rfl]; rw [hs, Bool.true_and] at hr; simp only [List.any_cons, List.filter_nil, List.any_nil, Bool.or_false]; exact hr
theorem rp_hit {t : Int} {L : List Od} {i : Nat} (h : i < L.length) (hs : stB (L.getD i zO) = true) (hr : rpT t (L.getD i zO) = true) : (L.filter stB).any (rpT t) = true :=
  List.any_eq_true.2 ⟨_, List.mem_filter.2 ⟨getD_mem h, hs⟩, hr⟩
theorem rp_end {t : Int} {L : List Od} (h : (L.filter stB).any (rpT t) = false) : L.filter (rpT t) = (flt L).filter (rpT t) := by
  unfold flt
  rw [List.filter_filter]
  apply List.filter_congr
  intro x hx
  cases hr : rpT t x
  · simp
  · cases hs : stB x
    · simp
    · exfalso
      have h2 : (L.filter stB).any (rpT t) = true := List.any_eq_true.2 ⟨x, List.mem_filter.2 ⟨hx, hs⟩, hr⟩
      rw [h] at h2; exact Bool.false_ne_true h2
set_option maxRecDepth 100000 in
set_option maxHeartbeats 8000000 in
theorem rrep_no (va : Option Addr) (vc : Nat) (V : List Int) (sa : Option Addr) (sc : Nat) (L : List Od) (v t : Int) (w : World) (h : Rb V L va vc sa sc w) (h9 : L.length ≤ 300) (h8 : V.length ≤ 300) (hw : isW V L = false) :
    Calls Try.prog 16 #[.agg #[.slice va V.length vc, .slice sa L.length sc], .int .i64 v, .int .i64 t] w (fun e w' => e = .returned (.tuple #[.agg #[.slice none 0 0, .slice none 0 0], .int .i64 1]) ∧ Below w.heap.size w w') := by
  have HWW := Lib.hid hw
  have HLn := Lib.hid h9
  have HVn := Lib.hid h8
  clear h9 h8
  have H0 := Lib.hid (Below.refl w.heap.size w)
  have H1 := Lib.hid (h)
  clear h
  have H2 := Lib.hid (H1.out.step (al w (.cells #[.slice va V.length vc, .slice sa L.length sc] 25)))
  clear H1
  have H3 := Lib.hid (keep2 (al w (.cells #[.slice va V.length vc, .slice sa L.length sc] 25)) H0.out)
  clear H0
  have H4 := Lib.hid (Cs.new w (w.heap.size) #[.slice va V.length vc, .slice sa L.length sc] 25 (by simp))
  have H5 := Lib.hid (H2.out.step (al (w.alloc (.cells #[.slice va V.length vc, .slice sa L.length sc] 25)) (.cells #[.slice none 0 0, .slice none 0 0] 25)))
  clear H2
  have H6 := Lib.hid (H4.out.step (al (w.alloc (.cells #[.slice va V.length vc, .slice sa L.length sc] 25)) (.cells #[.slice none 0 0, .slice none 0 0] 25)))
  clear H4
  have H7 := Lib.hid (keep2 (al (w.alloc (.cells #[.slice va V.length vc, .slice sa L.length sc] 25)) (.cells #[.slice none 0 0, .slice none 0 0] 25)) H3.out)
  clear H3
  have H8 := Lib.hid (Cs.new (w.alloc (.cells #[.slice va V.length vc, .slice sa L.length sc] 25)) (w.heap.size + 1) #[.slice none 0 0, .slice none 0 0] 25 (by simp))
  have H9 := Lib.hid (by have g := BoxN.new (w.alloc (.cells #[.slice va V.length vc, .slice sa L.length sc] 25)) #[.slice none 0 0, .slice none 0 0] 25; rw [show (w.alloc (.cells #[.slice va V.length vc, .slice sa L.length sc] 25)).heap.size = w.heap.size + 1 by simp] at g; exact g)
  go_enter Try.func16, Try.ntmps16
  have xb0 : ((w.alloc (.cells #[.slice va V.length vc, .slice sa L.length sc] 25)).alloc (.cells #[.slice none 0 0, .slice none 0 0] 25)).cell? ⟨(w.heap.size), 0, none⟩ = some (.slice va V.length vc) := H6.out.c 0 rfl
  have xb1 : ((w.alloc (.cells #[.slice va V.length vc, .slice sa L.length sc] 25)).alloc (.cells #[.slice none 0 0, .slice none 0 0] 25)).cell? ⟨(w.heap.size), 1, none⟩ = some (.slice sa L.length sc) := H6.out.c 1 rfl
  have zb : (w.heap.size) < ((w.alloc (.cells #[.slice va V.length vc, .slice sa L.length sc] 25)).alloc (.cells #[.slice none 0 0, .slice none 0 0] 25)).heap.size := H6.out.2.2
  go_wp2_with fail
  refine (validR_any va vc V sa sc L _ H5.out (by have := HLn.out; unfold maxLen; omega) (by have := HVn.out; unfold maxLen; omega)).mono ?_
  rintro e u1 ⟨rfl, b1⟩
  clear xb0 xb1 zb
  have H10 := Lib.hid (H5.out.step b1)
  clear H5
  have H11 := Lib.hid (H6.out.step b1)
  clear H6
  have H12 := Lib.hid (H8.out.step b1)
  clear H8
  have H13 := Lib.hid (H9.out.step b1)
  clear H9
  have H14 := Lib.hid (keep2 b1 H7.out)
  clear H7
  clear b1
  rw [HWW.out]
  have xz0 : u1.cell? ⟨(w.heap.size + 1), 0, none⟩ = some (.slice none 0 0) := H12.out.c 0 rfl
  have xz1 : u1.cell? ⟨(w.heap.size + 1), 1, none⟩ = some (.slice none 0 0) := H12.out.c 1 rfl
  have zz : (w.heap.size + 1) < u1.heap.size := H12.out.2.2
  have fz0 : u1.frozen? ⟨(w.heap.size + 1), 0, none⟩ = false := H12.out.f 0 (by simp)
  have fz1 : u1.frozen? ⟨(w.heap.size + 1), 1, none⟩ = false := H12.out.f 1 (by simp)
  go_wp2
  refine (fun (h : ∀ X : World, Cs X (w.heap.size + 1) #[.slice none 0 0, .slice none 0 0] → Chg (w.heap.size + 1) u1 X → bodyPost Try.prog Try.f16 _ Exit.ret _ X) => h _ (Cs.set (Cs.set H12.out 0 (by simp) (.slice none 0 0) rfl) 1 (by simp) (.slice none 0 0) (vs' := #[.slice none 0 0, .slice none 0 0]) rfl) (((Chg.of (Below.refl _ u1)).set 0 _).set 1 _)) ?_
  intro X hC hB
  have k0 : X.cell? ⟨(w.heap.size + 1), 0, none⟩ = some (.slice none 0 0) := hC.c 0 rfl
  have k1 : X.cell? ⟨(w.heap.size + 1), 1, none⟩ = some (.slice none 0 0) := hC.c 1 rfl
  exact bodyPost_ret (v := .tuple #[.agg #[.slice none 0 0, .slice none 0 0], .int .i64 1]) (by simp [results, Try.results16, go_sem, k0, k1]) rfl (⟨rfl, H14.out.trans (hB.below (by omega) H14.out.size)⟩)
set_option maxRecDepth 100000 in
set_option maxHeartbeats 8000000 in
theorem rrep_inr (va : Option Addr) (vc : Nat) (V : List Int) (sa : Option Addr) (sc : Nat) (L : List Od) (v t : Int) (w : World) (h : Rb V L va vc sa sc w) (h9 : L.length ≤ 300) (h8 : V.length ≤ 300) (hw : isW V L = true) (hin : inr t (-1) 1000000000 = false) :
    Calls Try.prog 16 #[.agg #[.slice va V.length vc, .slice sa L.length sc], .int .i64 v, .int .i64 t] w (fun e w' => e = .returned (.tuple #[.agg #[.slice none 0 0, .slice none 0 0], .int .i64 1]) ∧ Below w.heap.size w w') := by
  have HWW := Lib.hid hw
  have HIN := Lib.hid hin
  clear hin hw
  have HLn := Lib.hid h9
  have HVn := Lib.hid h8
  clear h9 h8
  have H0 := Lib.hid (Below.refl w.heap.size w)
  have H1 := Lib.hid (h)
  clear h
  have H2 := Lib.hid (H1.out.step (al w (.cells #[.slice va V.length vc, .slice sa L.length sc] 25)))
  clear H1
  have H3 := Lib.hid (keep2 (al w (.cells #[.slice va V.length vc, .slice sa L.length sc] 25)) H0.out)
  clear H0
  have H4 := Lib.hid (Cs.new w (w.heap.size) #[.slice va V.length vc, .slice sa L.length sc] 25 (by simp))
  have H5 := Lib.hid (H2.out.step (al (w.alloc (.cells #[.slice va V.length vc, .slice sa L.length sc] 25)) (.cells #[.slice none 0 0, .slice none 0 0] 25)))
  clear H2
  have H6 := Lib.hid (H4.out.step (al (w.alloc (.cells #[.slice va V.length vc, .slice sa L.length sc] 25)) (.cells #[.slice none 0 0, .slice none 0 0] 25)))
  clear H4
  have H7 := Lib.hid (keep2 (al (w.alloc (.cells #[.slice va V.length vc, .slice sa L.length sc] 25)) (.cells #[.slice none 0 0, .slice none 0 0] 25)) H3.out)
  clear H3
  have H8 := Lib.hid (Cs.new (w.alloc (.cells #[.slice va V.length vc, .slice sa L.length sc] 25)) (w.heap.size + 1) #[.slice none 0 0, .slice none 0 0] 25 (by simp))
  have H9 := Lib.hid (by have g := BoxN.new (w.alloc (.cells #[.slice va V.length vc, .slice sa L.length sc] 25)) #[.slice none 0 0, .slice none 0 0] 25; rw [show (w.alloc (.cells #[.slice va V.length vc, .slice sa L.length sc] 25)).heap.size = w.heap.size + 1 by simp] at g; exact g)
  go_enter Try.func16, Try.ntmps16
  have xb0 : ((w.alloc (.cells #[.slice va V.length vc, .slice sa L.length sc] 25)).alloc (.cells #[.slice none 0 0, .slice none 0 0] 25)).cell? ⟨(w.heap.size), 0, none⟩ = some (.slice va V.length vc) := H6.out.c 0 rfl
  have xb1 : ((w.alloc (.cells #[.slice va V.length vc, .slice sa L.length sc] 25)).alloc (.cells #[.slice none 0 0, .slice none 0 0] 25)).cell? ⟨(w.heap.size), 1, none⟩ = some (.slice sa L.length sc) := H6.out.c 1 rfl
  have zb : (w.heap.size) < ((w.alloc (.cells #[.slice va V.length vc, .slice sa L.length sc] 25)).alloc (.cells #[.slice none 0 0, .slice none 0 0] 25)).heap.size := H6.out.2.2
  go_wp2_with fail
  refine (validR_any va vc V sa sc L _ H5.out (by have := HLn.out; unfold maxLen; omega) (by have := HVn.out; unfold maxLen; omega)).mono ?_
  rintro e u1 ⟨rfl, b1⟩
  clear xb0 xb1 zb
  have H10 := Lib.hid (H5.out.step b1)
  clear H5
  have H11 := Lib.hid (H6.out.step b1)
  clear H6
  have H12 := Lib.hid (H8.out.step b1)
  clear H8
  have H13 := Lib.hid (H9.out.step b1)
  clear H9
  have H14 := Lib.hid (keep2 b1 H7.out)
  clear H7
  clear b1
  rw [HWW.out]
  go_wp2_with fail
  refine (between_any (-1) t 1000000000 _).mono ?_
  rintro e u2 ⟨rfl, b2⟩
  have H15 := Lib.hid (H10.out.step b2)
  clear H10
  have H16 := Lib.hid (H11.out.step b2)
  clear H11
  have H17 := Lib.hid (H12.out.step b2)
  clear H12
  have H18 := Lib.hid (H13.out.step b2)
  clear H13
  have H19 := Lib.hid (keep2 b2 H14.out)
  clear H14
  clear b2
  rw [HIN.out]
  have xz0 : u2.cell? ⟨(w.heap.size + 1), 0, none⟩ = some (.slice none 0 0) := H17.out.c 0 rfl
  have xz1 : u2.cell? ⟨(w.heap.size + 1), 1, none⟩ = some (.slice none 0 0) := H17.out.c 1 rfl
  have zz : (w.heap.size + 1) < u2.heap.size := H17.out.2.2
  have fz0 : u2.frozen? ⟨(w.heap.size + 1), 0, none⟩ = false := H17.out.f 0 (by simp)
  have fz1 : u2.frozen? ⟨(w.heap.size + 1), 1, none⟩ = false := H17.out.f 1 (by simp)
  go_wp2
  refine (fun (h : ∀ X : World, Cs X (w.heap.size + 1) #[.slice none 0 0, .slice none 0 0] → Chg (w.heap.size + 1) u2 X → bodyPost Try.prog Try.f16 _ Exit.ret _ X) => h _ (Cs.set (Cs.set H17.out 0 (by simp) (.slice none 0 0) rfl) 1 (by simp) (.slice none 0 0) (vs' := #[.slice none 0 0, .slice none 0 0]) rfl) (((Chg.of (Below.refl _ u2)).set 0 _).set 1 _)) ?_
  intro X hC hB
  have k0 : X.cell? ⟨(w.heap.size + 1), 0, none⟩ = some (.slice none 0 0) := hC.c 0 rfl
  have k1 : X.cell? ⟨(w.heap.size + 1), 1, none⟩ = some (.slice none 0 0) := hC.c 1 rfl
  exact bodyPost_ret (v := .tuple #[.agg #[.slice none 0 0, .slice none 0 0], .int .i64 1]) (by simp [results, Try.results16, go_sem, k0, k1]) rfl (⟨rfl, H19.out.trans (hB.below (by omega) H19.out.size)⟩)
set_option maxRecDepth 100000 in
set_option maxHeartbeats 8000000 in
theorem rrep_can (va : Option Addr) (vc : Nat) (V : List Int) (sa : Option Addr) (sc : Nat) (L : List Od) (v t : Int) (w : World) (h : Rb V L va vc sa sc w) (h9 : L.length ≤ 300) (h8 : V.length ≤ 300) (hw : isW V L = true) (hin : inr t (-1) 1000000000 = true) (hc : V.contains v = false) :
    Calls Try.prog 16 #[.agg #[.slice va V.length vc, .slice sa L.length sc], .int .i64 v, .int .i64 t] w (fun e w' => e = .returned (.tuple #[.agg #[.slice none 0 0, .slice none 0 0], .int .i64 28]) ∧ Below w.heap.size w w') := by
  have HWW := Lib.hid hw
  have HIN := Lib.hid hin
  have HCN := Lib.hid hc
  clear hin hw hc
  have HLn := Lib.hid h9
  have HVn := Lib.hid h8
  clear h9 h8
  have H0 := Lib.hid (Below.refl w.heap.size w)
  have H1 := Lib.hid (h)
  clear h
  have H2 := Lib.hid (H1.out.step (al w (.cells #[.slice va V.length vc, .slice sa L.length sc] 25)))
  clear H1
  have H3 := Lib.hid (keep2 (al w (.cells #[.slice va V.length vc, .slice sa L.length sc] 25)) H0.out)
  clear H0
  have H4 := Lib.hid (Cs.new w (w.heap.size) #[.slice va V.length vc, .slice sa L.length sc] 25 (by simp))
  have H5 := Lib.hid (H2.out.step (al (w.alloc (.cells #[.slice va V.length vc, .slice sa L.length sc] 25)) (.cells #[.slice none 0 0, .slice none 0 0] 25)))
  clear H2
  have H6 := Lib.hid (H4.out.step (al (w.alloc (.cells #[.slice va V.length vc, .slice sa L.length sc] 25)) (.cells #[.slice none 0 0, .slice none 0 0] 25)))
  clear H4
  have H7 := Lib.hid (keep2 (al (w.alloc (.cells #[.slice va V.length vc, .slice sa L.length sc] 25)) (.cells #[.slice none 0 0, .slice none 0 0] 25)) H3.out)
  clear H3
  have H8 := Lib.hid (Cs.new (w.alloc (.cells #[.slice va V.length vc, .slice sa L.length sc] 25)) (w.heap.size + 1) #[.slice none 0 0, .slice none 0 0] 25 (by simp))
  have H9 := Lib.hid (by have g := BoxN.new (w.alloc (.cells #[.slice va V.length vc, .slice sa L.length sc] 25)) #[.slice none 0 0, .slice none 0 0] 25; rw [show (w.alloc (.cells #[.slice va V.length vc, .slice sa L.length sc] 25)).heap.size = w.heap.size + 1 by simp] at g; exact g)
  go_enter Try.func16, Try.ntmps16
  have xb0 : ((w.alloc (.cells #[.slice va V.length vc, .slice sa L.length sc] 25)).alloc (.cells #[.slice none 0 0, .slice none 0 0] 25)).cell? ⟨(w.heap.size), 0, none⟩ = some (.slice va V.length vc) := H6.out.c 0 rfl
  have xb1 : ((w.alloc (.cells #[.slice va V.length vc, .slice sa L.length sc] 25)).alloc (.cells #[.slice none 0 0, .slice none 0 0] 25)).cell? ⟨(w.heap.size), 1, none⟩ = some (.slice sa L.length sc) := H6.out.c 1 rfl
  have zb : (w.heap.size) < ((w.alloc (.cells #[.slice va V.length vc, .slice sa L.length sc] 25)).alloc (.cells #[.slice none 0 0, .slice none 0 0] 25)).heap.size := H6.out.2.2
  go_wp2_with fail
  refine (validR_any va vc V sa sc L _ H5.out (by have := HLn.out; unfold maxLen; omega) (by have := HVn.out; unfold maxLen; omega)).mono ?_
  rintro e u1 ⟨rfl, b1⟩
  clear xb0 xb1 zb
  have H10 := Lib.hid (H5.out.step b1)
  clear H5
  have H11 := Lib.hid (H6.out.step b1)
  clear H6
  have H12 := Lib.hid (H8.out.step b1)
  clear H8
  have H13 := Lib.hid (H9.out.step b1)
  clear H9
  have H14 := Lib.hid (keep2 b1 H7.out)
  clear H7
  clear b1
  rw [HWW.out]
  go_wp2_with fail
  refine (between_any (-1) t 1000000000 _).mono ?_
  rintro e u2 ⟨rfl, b2⟩
  have H15 := Lib.hid (H10.out.step b2)
  clear H10
  have H16 := Lib.hid (H11.out.step b2)
  clear H11
  have H17 := Lib.hid (H12.out.step b2)
  clear H12
  have H18 := Lib.hid (H13.out.step b2)
  clear H13
  have H19 := Lib.hid (keep2 b2 H14.out)
  clear H14
  clear b2
  rw [HIN.out]
  have xb0 : u2.cell? ⟨(w.heap.size), 0, none⟩ = some (.slice va V.length vc) := H16.out.c 0 rfl
  have xb1 : u2.cell? ⟨(w.heap.size), 1, none⟩ = some (.slice sa L.length sc) := H16.out.c 1 rfl
  have zb : (w.heap.size) < u2.heap.size := H16.out.2.2
  go_wp2_with fail
  refine (rcan_any _ va vc V v _ H15.out.1 (by have := HVn.out; omega)).mono ?_
  rintro e u3 ⟨rfl, b3⟩
  clear xb0 xb1 zb
  have H20 := Lib.hid (H15.out.step b3)
  clear H15
  have H21 := Lib.hid (H16.out.step b3)
  clear H16
  have H22 := Lib.hid (H17.out.step b3)
  clear H17
  have H23 := Lib.hid (H18.out.step b3)
  clear H18
  have H24 := Lib.hid (keep2 b3 H19.out)
  clear H19
  clear b3
  rw [HCN.out]
  have xz0 : u3.cell? ⟨(w.heap.size + 1), 0, none⟩ = some (.slice none 0 0) := H22.out.c 0 rfl
  have xz1 : u3.cell? ⟨(w.heap.size + 1), 1, none⟩ = some (.slice none 0 0) := H22.out.c 1 rfl
  have zz : (w.heap.size + 1) < u3.heap.size := H22.out.2.2
  have fz0 : u3.frozen? ⟨(w.heap.size + 1), 0, none⟩ = false := H22.out.f 0 (by simp)
  have fz1 : u3.frozen? ⟨(w.heap.size + 1), 1, none⟩ = false := H22.out.f 1 (by simp)
  go_wp2
  refine (fun (h : ∀ X : World, Cs X (w.heap.size + 1) #[.slice none 0 0, .slice none 0 0] → Chg (w.heap.size + 1) u3 X → bodyPost Try.prog Try.f16 _ Exit.ret _ X) => h _ (Cs.set (Cs.set H22.out 0 (by simp) (.slice none 0 0) rfl) 1 (by simp) (.slice none 0 0) (vs' := #[.slice none 0 0, .slice none 0 0]) rfl) (((Chg.of (Below.refl _ u3)).set 0 _).set 1 _)) ?_
  intro X hC hB
  have k0 : X.cell? ⟨(w.heap.size + 1), 0, none⟩ = some (.slice none 0 0) := hC.c 0 rfl
  have k1 : X.cell? ⟨(w.heap.size + 1), 1, none⟩ = some (.slice none 0 0) := hC.c 1 rfl
  exact bodyPost_ret (v := .tuple #[.agg #[.slice none 0 0, .slice none 0 0], .int .i64 28]) (by simp [results, Try.results16, go_sem, k0, k1]) rfl (⟨rfl, H24.out.trans (hB.below (by omega) H24.out.size)⟩)
set_option maxRecDepth 100000 in
set_option maxHeartbeats 8000000 in
theorem rrep_go (va : Option Addr) (vc : Nat) (V : List Int) (sa : Option Addr) (sc : Nat) (L : List Od) (v t : Int) (w : World) (h : Rb V L va vc sa sc w) (h9 : L.length ≤ 300) (h8 : V.length ≤ 300) (hw : isW V L = true) (hin : inr t (-1) 1000000000 = true) (hc : V.contains v = true) (hpos : 0 < L.length) :
    Calls Try.prog 16 #[.agg #[.slice va V.length vc, .slice sa L.length sc], .int .i64 v, .int .i64 t] w (fun e w' => ((L.filter stB).any (rpT t) = true ∧ e = .returned (.tuple #[.agg #[.slice none 0 0, .slice none 0 0], .int .i64 28]) ∧ Below w.heap.size w w') ∨ ((L.filter stB).any (rpT t) = false ∧ ChQ (rvl (rpM L v t)) (rpM L v t) 0 w e w')) := by
  have HWW := Lib.hid hw
  have HIN := Lib.hid hin
  have HCN := Lib.hid hc
  have HPOS := Lib.hid hpos
  clear hin hw hc hpos
  have HLn := Lib.hid h9
  have HVn := Lib.hid h8
  clear h9 h8
  have H0 := Lib.hid (Below.refl w.heap.size w)
  have H1 := Lib.hid (h)
  clear h
  have H2 := Lib.hid (H1.out.step (al w (.cells #[.slice va V.length vc, .slice sa L.length sc] 25)))
  clear H1
  have H3 := Lib.hid (keep2 (al w (.cells #[.slice va V.length vc, .slice sa L.length sc] 25)) H0.out)
  clear H0
  have H4 := Lib.hid (Cs.new w (w.heap.size) #[.slice va V.length vc, .slice sa L.length sc] 25 (by simp))
  have H5 := Lib.hid (H2.out.step (al (w.alloc (.cells #[.slice va V.length vc, .slice sa L.length sc] 25)) (.cells #[.slice none 0 0, .slice none 0 0] 25)))
  clear H2
  have H6 := Lib.hid (H4.out.step (al (w.alloc (.cells #[.slice va V.length vc, .slice sa L.length sc] 25)) (.cells #[.slice none 0 0, .slice none 0 0] 25)))
  clear H4
  have H7 := Lib.hid (keep2 (al (w.alloc (.cells #[.slice va V.length vc, .slice sa L.length sc] 25)) (.cells #[.slice none 0 0, .slice none 0 0] 25)) H3.out)
  clear H3
  have H8 := Lib.hid (Cs.new (w.alloc (.cells #[.slice va V.length vc, .slice sa L.length sc] 25)) (w.heap.size + 1) #[.slice none 0 0, .slice none 0 0] 25 (by simp))
  have H9 := Lib.hid (by have g := BoxN.new (w.alloc (.cells #[.slice va V.length vc, .slice sa L.length sc] 25)) #[.slice none 0 0, .slice none 0 0] 25; rw [show (w.alloc (.cells #[.slice va V.length vc, .slice sa L.length sc] 25)).heap.size = w.heap.size + 1 by simp] at g; exact g)
  go_enter Try.func16, Try.ntmps16
  have xb0 : ((w.alloc (.cells #[.slice va V.length vc, .slice sa L.length sc] 25)).alloc (.cells #[.slice none 0 0, .slice none 0 0] 25)).cell? ⟨(w.heap.size), 0, none⟩ = some (.slice va V.length vc) := H6.out.c 0 rfl
  have xb1 : ((w.alloc (.cells #[.slice va V.length vc, .slice sa L.length sc] 25)).alloc (.cells #[.slice none 0 0, .slice none 0 0] 25)).cell? ⟨(w.heap.size), 1, none⟩ = some (.slice sa L.length sc) := H6.out.c 1 rfl
  have zb : (w.heap.size) < ((w.alloc (.cells #[.slice va V.length vc, .slice sa L.length sc] 25)).alloc (.cells #[.slice none 0 0, .slice none 0 0] 25)).heap.size := H6.out.2.2
  go_wp2_with fail
  refine (validR_any va vc V sa sc L _ H5.out (by have := HLn.out; unfold maxLen; omega) (by have := HVn.out; unfold maxLen; omega)).mono ?_
  rintro e u1 ⟨rfl, b1⟩
  clear xb0 xb1 zb
  have H10 := Lib.hid (H5.out.step b1)
  clear H5
  have H11 := Lib.hid (H6.out.step b1)
  clear H6
  have H12 := Lib.hid (H8.out.step b1)
  clear H8
  have H13 := Lib.hid (H9.out.step b1)
  clear H9
  have H14 := Lib.hid (keep2 b1 H7.out)
  clear H7
  clear b1
  rw [HWW.out]
  go_wp2_with fail
  refine (between_any (-1) t 1000000000 _).mono ?_
  rintro e u2 ⟨rfl, b2⟩
  have H15 := Lib.hid (H10.out.step b2)
  clear H10
  have H16 := Lib.hid (H11.out.step b2)
  clear H11
  have H17 := Lib.hid (H12.out.step b2)
  clear H12
  have H18 := Lib.hid (H13.out.step b2)
  clear H13
  have H19 := Lib.hid (keep2 b2 H14.out)
  clear H14
  clear b2
  rw [HIN.out]
  have xb0 : u2.cell? ⟨(w.heap.size), 0, none⟩ = some (.slice va V.length vc) := H16.out.c 0 rfl
  have xb1 : u2.cell? ⟨(w.heap.size), 1, none⟩ = some (.slice sa L.length sc) := H16.out.c 1 rfl
  have zb : (w.heap.size) < u2.heap.size := H16.out.2.2
  go_wp2_with fail
  refine (rcan_any _ va vc V v _ H15.out.1 (by have := HVn.out; omega)).mono ?_
  rintro e u3 ⟨rfl, b3⟩
  clear xb0 xb1 zb
  have H20 := Lib.hid (H15.out.step b3)
  clear H15
  have H21 := Lib.hid (H16.out.step b3)
  clear H16
  have H22 := Lib.hid (H17.out.step b3)
  clear H17
  have H23 := Lib.hid (H18.out.step b3)
  clear H18
  have H24 := Lib.hid (keep2 b3 H19.out)
  clear H19
  clear b3
  rw [HCN.out]
  obtain ⟨a1, cc1, hv1, -, -, hcs1⟩ := H20.out.2
  obtain ⟨rfl, rfl⟩ : sa = a1 ∧ sc = cc1 := by simpa using hv1
  obtain ⟨b1, o1, rfl, -⟩ := hcs1 (by intro e; have := HPOS.out; rw [e] at this; simp at this)
  clear hcs1 hv1
  have xb0 : u3.cell? ⟨(w.heap.size), 0, none⟩ = some (.slice va V.length vc) := H21.out.c 0 rfl
  have xb1 : u3.cell? ⟨(w.heap.size), 1, none⟩ = some (.slice (some ⟨b1, o1, none⟩) L.length sc) := H21.out.c 1 rfl
  have zb : (w.heap.size) < u3.heap.size := H21.out.2.2
  go_wp2_with fail
  clear xb0 xb1 zb
  obtain ⟨U, hU⟩ : ∃ z9, u3 = z9 := ⟨_, rfl⟩
  rw [hU] at H20 H21 H22 H23 H24 ⊢
  clear hU
  obtain ⟨i0, hi0, hz0, hz1, hz2⟩ := info_parts od_info
  go_loopw [8, 9, 10] (fun fv rv iv wr => ∃ (i : Nat) (P : List Od) (F : Int), i ≤ L.length ∧ P.length ≤ i ∧ fv = .int .i64 F ∧ iv = .int .i64 (i : Int) ∧ Hid (wr.ownsRow U.heap.size 27 4 rv P.length (ocs P)) ∧ Hid (P = (L.take i).filter (rpT t)) ∧ Hid (F = rpB t (L.take i)) ∧ Hid (((L.take i).filter stB).any (rpT t) = false) ∧ Hid (Below U.heap.size U wr)) (fun _ _ iv _ => L.length - (intOf iv).toNat)
  case atStart => exact ⟨0, [], 0, by omega, by simp, rfl, rfl, Lib.hid (World.ownsRow_nil U U.heap.size 27 4), Lib.hid (by simp), Lib.hid (by simp [rpB]), Lib.hid (by simp), Lib.hid (Below.refl _ _)⟩
  case round =>
    obtain ⟨i, P, F, hi, hP, rfl, rfl, HRW, HN, HF, HA, HW⟩ := hrel
    have H25 := Lib.hid (H20.out.step HW.out)
    have H26 := Lib.hid (H21.out.step HW.out)
    have H27 := Lib.hid (H22.out.step HW.out)
    have H28 := Lib.hid (H23.out.step HW.out)
    have H29 := Lib.hid (keep2 HW.out H24.out)
    by_cases hlt : i < L.length
    rotate_left
    · skip
      have hil : i = L.length := by omega
      have HP := Lib.hid (show P = L.filter (rpT t) by rw [HN.out, hil, List.take_length])
      have HFX := Lib.hid (show F = rpB t L by rw [HF.out, hil, List.take_length])
      have HAX := Lib.hid (show (L.filter stB).any (rpT t) = false by have := HA.out; rwa [hil, List.take_length] at this)
      have hP9 : P.length ≤ 1000 := by have := HLn.out; omega
      obtain ⟨M, hM⟩ : ∃ z9, [(⟨t, F, -1, v⟩ : Od)] ++ P = z9 := ⟨_, rfl⟩
      have HM := Lib.hid hM
      have HML := Lib.hid (show M.length ≤ maxLen by rw [← hM]; simp; unfold maxLen; omega)
      clear hM
      have HCF := Lib.hid (show rpM L v t = M by unfold rpM; rw [← HM.out, HP.out, HFX.out, rp_end HAX.out]; rfl)
      have xb0 : wr.cell? ⟨(w.heap.size), 0, none⟩ = some (.slice va V.length vc) := H26.out.c 0 rfl
      have xb1 : wr.cell? ⟨(w.heap.size), 1, none⟩ = some (.slice (some ⟨b1, o1, none⟩) L.length sc) := H26.out.c 1 rfl
      have zb : (w.heap.size) < wr.heap.size := H26.out.2.2
      have t1 : ¬ (i : Int) < (L.length : Int) := by omega
      have t2 : decide ((i : Int) < (L.length : Int)) = false := decide_eq_false t1
      obtain ⟨la7, lc7, rfl⟩ := row_slice HRW.out
      have HOP := Lib.hid (ods_of_row rfl HRW.out)
      obtain ⟨v8, w8, hq8, ho8, hb8⟩ := app_list (wr.alloc (.cells #[.int .i64 t, .int .i64 F, .int .i64 (-1), .int .i64 v] 27)) U.heap.size (.slice (some ⟨wr.heap.size, 0, none⟩) 1 1) [⟨t, F, -1, v⟩] P (row_one wr ⟨t, F, -1, v⟩ U.heap.size HW.out.size) la7 lc7 (HOP.out.step (al _ _)) (by simp; omega) (by have := HW.out.size; simp; omega) 23
      rw [HM.out] at ho8
      obtain ⟨la8, lc8, rfl⟩ := row_slice ho8
      have HQ := Lib.hid hq8
      have HO8 := Lib.hid (ods_of_row rfl ho8)
      have HB8 := Lib.hid ((HW.out.alloc HW.out.size (.cells #[.int .i64 t, .int .i64 F, .int .i64 (-1), .int .i64 v] 27)).trans hb8)
      clear hq8 ho8 hb8
      go_wp2_with (at_builtin; refine Lib.wpList_append_run _ rfl _ _ _ _ rfl _ _ rfl rfl _ _ HQ.out ?_)
      refine (of_any la8 lc8 M _ HO8.out HML.out).mono ?_
      rintro e u9 ⟨ua, uc, rfl, b9, hr9⟩
      have HB9 := Lib.hid (keep2 b9 HB8.out)
      clear b9
      have HR9 := Lib.hid hr9
      clear hr9 xb0 xb1 zb
      have HZ9 := Lib.hid (H22.out.step HB9.out)
      have HX9 := Lib.hid (H23.out.step HB9.out)
      have HW9 := Lib.hid (keep2 HB9.out H24.out)
      have c0 := HZ9.out.c 0 rfl
      have c1 := HZ9.out.c 1 rfl
      have f0 := HZ9.out.f 0 (by simp)
      have f1 := HZ9.out.f 1 (by simp)
      have cz := HZ9.out.2.2
      go_wp2
      refine (fun (h : ∀ X : World, Cs X (w.heap.size + 1) #[.slice ua (rvl M).length uc, .slice la8 M.length lc8] → Chg (w.heap.size + 1) u9 X → bodyPost Try.prog Try.f16 _ Exit.ret _ X) => h _ (Cs.set (Cs.set HZ9.out 0 (by simp) (.slice ua (rvl M).length uc) rfl) 1 (by simp) (.slice la8 M.length lc8) (vs' := #[.slice ua (rvl M).length uc, .slice la8 M.length lc8]) rfl) (((Chg.of (Below.refl _ u9)).set 0 _).set 1 _)) ?_
      intro X hC hB
      have k0 : X.cell? ⟨(w.heap.size + 1), 0, none⟩ = some (.slice ua (rvl M).length uc) := hC.c 0 rfl
      have k1 : X.cell? ⟨(w.heap.size + 1), 1, none⟩ = some (.slice la8 M.length lc8) := hC.c 1 rfl
      exact bodyPost_ret (v := .tuple #[.agg #[.slice ua (rvl M).length uc, .slice la8 M.length lc8], .int .i64 0]) (by simp [results, Try.results16, go_sem, k0, k1]) rfl (.inr ⟨HAX.out, by rw [HCF.out]; exact ⟨ua, uc, la8, lc8, rfl, HW9.out.trans (hB.below (by omega) HW9.out.size), Rb.kept HR9.out hB (sl_of HX9.out)⟩⟩)
    obtain ⟨x0, x1, x2, x3⟩ : wr.cell? ⟨b1, o1 + i * 4, none⟩ = some (.int .i64 (L.getD i zO).a) ∧ wr.cell? ⟨b1, o1 + i * 4 + 1, none⟩ = some (.int .i64 (L.getD i zO).b) ∧ wr.cell? ⟨b1, o1 + i * 4 + 2, none⟩ = some (.int .i64 (L.getD i zO).c) ∧ wr.cell? ⟨b1, o1 + i * 4 + 3, none⟩ = some (.int .i64 (L.getD i zO).d) := by
      obtain ⟨a2, cc2, hv2, -, -, hcs2⟩ := H25.out.2
      have ea : some (⟨b1, o1, none⟩ : Addr) = a2 := by simp at hv2; exact hv2.1
      obtain ⟨b2, o2, hx, hx2⟩ := hcs2 (by intro e; rw [e] at hlt; simp at hlt)
      rw [← ea] at hx
      cases hx
      exact hx2 i _ (od_get hlt)
    have xz := World.block_lt_of_cell? _ _ x0
    have t1 : (i : Int) < (L.length : Int) := by omega
    have HIL := Lib.hid hlt
    have HAP := Lib.hid (rp_app (t := t) hlt)
    have HNO := Lib.hid (rp_no (t := t) hlt)
    have HAN := Lib.hid (fun hr => rp_any (t := t) hlt hr HA.out)
    have HHT := Lib.hid (rp_hit (t := t) hlt)
    have HBS := Lib.hid (rpB_step (t := t) hlt)
    obtain ⟨x, hx⟩ : ∃ z9, L.getD i zO = z9 := ⟨_, rfl⟩
    rw [hx] at x0 x1 x2 x3 HAP HNO HAN HHT HBS
    clear hx
    have xb0 : wr.cell? ⟨(w.heap.size), 0, none⟩ = some (.slice va V.length vc) := H26.out.c 0 rfl
    have xb1 : wr.cell? ⟨(w.heap.size), 1, none⟩ = some (.slice (some ⟨b1, o1, none⟩) L.length sc) := H26.out.c 1 rfl
    have zb : (w.heap.size) < wr.heap.size := H26.out.2.2
    have H30 := Lib.hid (H25.out.step (al wr (.cells #[.int .i64 x.a, .int .i64 x.b, .int .i64 x.c, .int .i64 x.d] 27)))
    clear H25
    have H31 := Lib.hid (H26.out.step (al wr (.cells #[.int .i64 x.a, .int .i64 x.b, .int .i64 x.c, .int .i64 x.d] 27)))
    clear H26
    have H32 := Lib.hid (H27.out.step (al wr (.cells #[.int .i64 x.a, .int .i64 x.b, .int .i64 x.c, .int .i64 x.d] 27)))
    clear H27
    have H33 := Lib.hid (H28.out.step (al wr (.cells #[.int .i64 x.a, .int .i64 x.b, .int .i64 x.c, .int .i64 x.d] 27)))
    clear H28
    have H34 := Lib.hid (row_step HRW.out (al wr (.cells #[.int .i64 x.a, .int .i64 x.b, .int .i64 x.c, .int .i64 x.d] 27)))
    clear HRW
    have H35 := Lib.hid (keep2 (al wr (.cells #[.int .i64 x.a, .int .i64 x.b, .int .i64 x.c, .int .i64 x.d] 27)) HW.out)
    clear HW
    have H36 := Lib.hid (keep2 (al wr (.cells #[.int .i64 x.a, .int .i64 x.b, .int .i64 x.c, .int .i64 x.d] 27)) H29.out)
    clear H29
    have H37 := Lib.hid (Cs.new wr (wr.heap.size) #[.int .i64 x.a, .int .i64 x.b, .int .i64 x.c, .int .i64 x.d] 27 (by simp))
    have hi1000 : i ≤ 300 := by have := HLn.out; omega
    have yx0 : (wr.alloc (.cells #[.int .i64 x.a, .int .i64 x.b, .int .i64 x.c, .int .i64 x.d] 27)).cell? ⟨(wr.heap.size), 0, none⟩ = some (.int .i64 x.a) := H37.out.c 0 rfl
    have yx1 : (wr.alloc (.cells #[.int .i64 x.a, .int .i64 x.b, .int .i64 x.c, .int .i64 x.d] 27)).cell? ⟨(wr.heap.size), 1, none⟩ = some (.int .i64 x.b) := H37.out.c 1 rfl
    have yx2 : (wr.alloc (.cells #[.int .i64 x.a, .int .i64 x.b, .int .i64 x.c, .int .i64 x.d] 27)).cell? ⟨(wr.heap.size), 2, none⟩ = some (.int .i64 x.c) := H37.out.c 2 rfl
    have yx3 : (wr.alloc (.cells #[.int .i64 x.a, .int .i64 x.b, .int .i64 x.c, .int .i64 x.d] 27)).cell? ⟨(wr.heap.size), 3, none⟩ = some (.int .i64 x.d) := H37.out.c 3 rfl
    go_wp2_with fail
    refine (settledR_any x _).mono ?_
    rintro e u7 ⟨rfl, b7⟩
    clear xb0 xb1 zb x0 x1 x2 x3 xz yx0 yx1 yx2 yx3
    have H38 := Lib.hid (H30.out.step b7)
    clear H30
    have H39 := Lib.hid (H31.out.step b7)
    clear H31
    have H40 := Lib.hid (H32.out.step b7)
    clear H32
    have H41 := Lib.hid (H33.out.step b7)
    clear H33
    have H42 := Lib.hid (row_step H34.out b7)
    clear H34
    have H43 := Lib.hid (keep2 b7 H35.out)
    clear H35
    have H44 := Lib.hid (H37.out.step b7)
    clear H37
    have H45 := Lib.hid (keep2 b7 H36.out)
    clear H36
    clear b7
    cases hst : stB x
    · skip
      by_cases hxt : t < x.a
      · skip
        have g1 : decide (t < x.a) = true := decide_eq_true hxt
        have g2 : decide (x.a ≤ t) = false := decide_eq_false (by omega)
        have g3 : ¬ x.a ≤ t := by omega
        have HRT := Lib.hid (show rpT t x = true from g1)
        have xx0 : u7.cell? ⟨(wr.heap.size), 0, none⟩ = some (.int .i64 x.a) := H44.out.c 0 rfl
        have xx1 : u7.cell? ⟨(wr.heap.size), 1, none⟩ = some (.int .i64 x.b) := H44.out.c 1 rfl
        have xx2 : u7.cell? ⟨(wr.heap.size), 2, none⟩ = some (.int .i64 x.c) := H44.out.c 2 rfl
        have xx3 : u7.cell? ⟨(wr.heap.size), 3, none⟩ = some (.int .i64 x.d) := H44.out.c 3 rfl
        have zx : (wr.heap.size) < u7.heap.size := H44.out.2.2
        have HR2 := Lib.hid (H42.out.alloc (.cells #[.int .i64 x.a, .int .i64 x.b, .int .i64 x.c, .int .i64 x.d] 27))
        have HNB := Lib.hid (show ∀ j u, ([.int .i64 x.a, .int .i64 x.b, .int .i64 x.c, .int .i64 x.d] : List Value)[j]? = some u → (u7.alloc (.cells #[.int .i64 x.a, .int .i64 x.b, .int .i64 x.c, .int .i64 x.d] 27)).cell? ((⟨u7.heap.size, 0, none⟩ : Addr).add j) = some u from World.news_of_block (BoxN.new u7 #[.int .i64 x.a, .int .i64 x.b, .int .i64 x.c, .int .i64 x.d] 27))
        have HUS := Lib.hid (H43.out.size)
        have hP9 : P.length ≤ 1000 := by omega
        go_wp2_with (at_builtin; refine wpList_append_own _ rfl _ _ 23 rfl U.heap.size 27 i0 _ 4 32 Try.underlying23 hi0 hz0 hz1 hz2 rfl (by decide) _ _ _ rfl HR2.out ⟨u7.heap.size, 0, none⟩ 1 1 [.int .i64 x.a, .int .i64 x.b, .int .i64 x.c, .int .i64 x.d] rfl rfl HNB.out (by simp [Value.oneCell']) (by unfold maxLen; omega) (by omega) (by have := HUS.out; simp; omega) ?_; intro v8 w8 ho8 hg8 _; have HR8 := Lib.hid ho8; have HB8 := Lib.hid (below_own (Nat.le_refl _) H43.out H42.out hg8); clear ho8 hg8)
        have HNE := Lib.hid (show P ++ [x] = (L.take (i + 1)).filter (rpT t) by rw [HAP.out HRT.out, ← HN.out])
        have HFE := Lib.hid (show F = rpB t (L.take (i + 1)) by rw [HBS.out, HRT.out, HF.out]; rfl)
        have HAE := Lib.hid (HAN.out (by rw [hst, Bool.false_and]))
        go_roundw
        case rel => exact ⟨i + 1, P ++ [x], F, HIL.out, (by simp; omega), rfl, by go_num, (by rw [List.length_append, ocs_app, ocs_one]; exact HR8), HNE, HFE, HAE, HB8⟩
        case measure => have := HIL.out; simp [intOf]; omega
      have g1 : decide (t < x.a) = false := decide_eq_false hxt
      have g2 : decide (x.a ≤ t) = true := decide_eq_true (by omega)
      have g3 : x.a ≤ t := by omega
      have HRT := Lib.hid (show rpT t x = false from g1)
      have xx0 : u7.cell? ⟨(wr.heap.size), 0, none⟩ = some (.int .i64 x.a) := H44.out.c 0 rfl
      have xx1 : u7.cell? ⟨(wr.heap.size), 1, none⟩ = some (.int .i64 x.b) := H44.out.c 1 rfl
      have xx2 : u7.cell? ⟨(wr.heap.size), 2, none⟩ = some (.int .i64 x.c) := H44.out.c 2 rfl
      have xx3 : u7.cell? ⟨(wr.heap.size), 3, none⟩ = some (.int .i64 x.d) := H44.out.c 3 rfl
      have zx : (wr.heap.size) < u7.heap.size := H44.out.2.2
      have HNE := Lib.hid (show P = (L.take (i + 1)).filter (rpT t) by rw [HNO.out HRT.out]; exact HN.out)
      have HFE := Lib.hid (show max F x.b = rpB t (L.take (i + 1)) by rw [HBS.out, HRT.out, HF.out]; rfl)
      have HAE := Lib.hid (HAN.out (by rw [HRT.out, Bool.and_false]))
      go_wp2
      go_roundw
      case rel => exact ⟨i + 1, P, max F x.b, HIL.out, by omega, rfl, by go_num, H42, HNE, HFE, HAE, H43⟩
      case measure => have := HIL.out; simp [intOf]; omega
    by_cases hxt : t < x.a
    · skip
      have g1 : decide (t < x.a) = true := decide_eq_true hxt
      have g2 : decide (x.a ≤ t) = false := decide_eq_false (by omega)
      have g3 : ¬ x.a ≤ t := by omega
      have HRT := Lib.hid (show rpT t x = true from g1)
      have xx0 : u7.cell? ⟨(wr.heap.size), 0, none⟩ = some (.int .i64 x.a) := H44.out.c 0 rfl
      have xx1 : u7.cell? ⟨(wr.heap.size), 1, none⟩ = some (.int .i64 x.b) := H44.out.c 1 rfl
      have xx2 : u7.cell? ⟨(wr.heap.size), 2, none⟩ = some (.int .i64 x.c) := H44.out.c 2 rfl
      have xx3 : u7.cell? ⟨(wr.heap.size), 3, none⟩ = some (.int .i64 x.d) := H44.out.c 3 rfl
      have zx : (wr.heap.size) < u7.heap.size := H44.out.2.2
      have xz0 : u7.cell? ⟨(w.heap.size + 1), 0, none⟩ = some (.slice none 0 0) := H40.out.c 0 rfl
      have xz1 : u7.cell? ⟨(w.heap.size + 1), 1, none⟩ = some (.slice none 0 0) := H40.out.c 1 rfl
      have zz : (w.heap.size + 1) < u7.heap.size := H40.out.2.2
      have fz0 : u7.frozen? ⟨(w.heap.size + 1), 0, none⟩ = false := H40.out.f 0 (by simp)
      have fz1 : u7.frozen? ⟨(w.heap.size + 1), 1, none⟩ = false := H40.out.f 1 (by simp)
      go_wp2
      refine (fun (h : ∀ X : World, Cs X (w.heap.size + 1) #[.slice none 0 0, .slice none 0 0] → Chg (w.heap.size + 1) u7 X → bodyPost Try.prog Try.f16 _ Exit.ret _ X) => h _ (Cs.set (Cs.set H40.out 0 (by simp) (.slice none 0 0) rfl) 1 (by simp) (.slice none 0 0) (vs' := #[.slice none 0 0, .slice none 0 0]) rfl) (((Chg.of (Below.refl _ u7)).set 0 _).set 1 _)) ?_
      intro X hC hB
      have k0 : X.cell? ⟨(w.heap.size + 1), 0, none⟩ = some (.slice none 0 0) := hC.c 0 rfl
      have k1 : X.cell? ⟨(w.heap.size + 1), 1, none⟩ = some (.slice none 0 0) := hC.c 1 rfl
      exact bodyPost_ret (v := .tuple #[.agg #[.slice none 0 0, .slice none 0 0], .int .i64 28]) (by simp [results, Try.results16, go_sem, k0, k1]) rfl (.inl ⟨HHT.out hst HRT.out, rfl, H45.out.trans (hB.below (by omega) H45.out.size)⟩)
    have g1 : decide (t < x.a) = false := decide_eq_false hxt
    have g2 : decide (x.a ≤ t) = true := decide_eq_true (by omega)
    have g3 : x.a ≤ t := by omega
    have HRT := Lib.hid (show rpT t x = false from g1)
    have xx0 : u7.cell? ⟨(wr.heap.size), 0, none⟩ = some (.int .i64 x.a) := H44.out.c 0 rfl
    have xx1 : u7.cell? ⟨(wr.heap.size), 1, none⟩ = some (.int .i64 x.b) := H44.out.c 1 rfl
    have xx2 : u7.cell? ⟨(wr.heap.size), 2, none⟩ = some (.int .i64 x.c) := H44.out.c 2 rfl
    have xx3 : u7.cell? ⟨(wr.heap.size), 3, none⟩ = some (.int .i64 x.d) := H44.out.c 3 rfl
    have zx : (wr.heap.size) < u7.heap.size := H44.out.2.2
    have HNE := Lib.hid (show P = (L.take (i + 1)).filter (rpT t) by rw [HNO.out HRT.out]; exact HN.out)
    have HFE := Lib.hid (show max F x.b = rpB t (L.take (i + 1)) by rw [HBS.out, HRT.out, HF.out]; rfl)
    have HAE := Lib.hid (HAN.out (by rw [HRT.out, Bool.and_false]))
    go_wp2
    go_roundw
    case rel => exact ⟨i + 1, P, max F x.b, HIL.out, by omega, rfl, by go_num, H42, HNE, HFE, HAE, H43⟩
    case measure => have := HIL.out; simp [intOf]; omega

theorem rreported_q {V V' : List Int} {L M' : List Od} (v t : Int) {E : Int} (hE : rnE V L v t = E) (hV' : rV E (rpM L v t) = V') (hM' : rM E (rpM L v t) = M') (va : Option Addr) (vc : Nat) (sa : Option Addr) (sc : Nat) (w : World) (h : Rb V L va vc sa sc w) (h9 : L.length ≤ 300) (h8 : V.length ≤ 300) :
    Calls Try.prog 16 #[.agg #[.slice va V.length vc, .slice sa L.length sc], .int .i64 v, .int .i64 t] w (ChQ V' M' E w) := by
  subst hV' hM' hE
  cases hw : isW V L
  · have hE : rnE V L v t = 1 := by rw [rnE_W, if_neg (by rw [hw]; exact Bool.false_ne_true)]
    rw [hE]
    refine (rrep_no va vc V sa sc L v t w h h9 h8 hw).mono ?_
    rintro e w' ⟨rfl, b⟩
    exact chq_zero (by decide) rfl rfl b
  · have hE : rnE V L v t = rpE V L v t := by rw [rnE_W, if_pos hw]
    rw [hE]
    cases hin : inr t (-1) 1000000000
    · have h2 : rpE V L v t = 1 := by unfold rpE; rw [if_pos hin]
      rw [h2]
      refine (rrep_inr va vc V sa sc L v t w h h9 h8 hw hin).mono ?_
      rintro e w' ⟨rfl, b⟩
      exact chq_zero (by decide) rfl rfl b
    · cases hc : V.contains v
      · have h2 : rpE V L v t = 28 := by unfold rpE; rw [if_neg (by rw [hin]; simp), if_pos (by rw [hc]; rfl)]
        rw [h2]
        refine (rrep_can va vc V sa sc L v t w h h9 h8 hw hin hc).mono ?_
        rintro e w' ⟨rfl, b⟩
        exact chq_zero (by decide) rfl rfl b
      · have hpos : 0 < L.length := by
          obtain ⟨x, hx, -⟩ := ((isW_iff V L).1 hw).2.2.1
          exact List.length_pos_of_mem hx
        refine (rrep_go va vc V sa sc L v t w h h9 h8 hw hin hc hpos).mono ?_
        rintro e w' (⟨ha, rfl, b⟩ | ⟨ha, hq⟩)
        · have h2 : rpE V L v t = 28 := by unfold rpE; rw [if_neg (by rw [hin]; simp), if_pos (by rw [ha, Bool.or_true])]
          rw [h2]
          exact chq_zero (by decide) rfl rfl b
        · have h2 : rpE V L v t = 0 := by unfold rpE; rw [if_neg (by rw [hin]; simp), if_neg (by rw [hc, ha]; simp)]
          have h4 := rep_ok hw h2
          rw [rM_W _ rfl] at h4
          have h5 := ((isW_iff _ _).1 h4).2.2.2.2.2.2
          rw [h2, rM_W _ rfl, h5]
          exact hq
end Go.Proofs.Ytigpopemllamdaa
