import Derived.Test.YteodafhgfcbdpaaUo
import Derived.Test.YteodafhgfcbdpaaUw
import Derived.Test.YteodafhgfcbdpaaVa
import Derived.Test.YteodafhgfcbdpaaWd
namespace Go.Proofs.Yteodafhgfcbdpaa
open Go.RowKit

theorem neq_self (m : Mf) (W : World) : (binOp .neq 24 (.agg #[.int .i64 m.v, .int .i64 m.c, .int .i64 m.s, .int .i64 m.r, .int .i64 m.t]) (.agg #[.int .i64 m.v, .int .i64 m.c, .int .i64 m.s, .int .i64 m.r, .int .i64 m.t])).run Try.prog W = .ok (.bool false) W := by
  simp [go_sem]
theorem al_facts {m : Mf} {L : List (List Int)} {i : Int} {d p : List Int} (h : adE m L i d p = 0) : 0 ≤ i ∧ i < L.length ∧ (adL m L i d p).length = L.length ∧ (adL m L i d p).getD i.toNat [] = d ∧ ∀ j, j ≠ i.toNat → (adL m L i d p).getD j [] = L.getD j [] := by
  obtain ⟨h1, h2, -⟩ := ad_zero h
  have h3 := ft_parts h2
  have h4 := sl_len h1
  have e : adL m L i d p = L.set i.toNat d := by
    unfold adL
    rw [if_pos h]
  rw [e]
  refine ⟨h3.1, by omega, by simp, ?_, fun j hj => ?_⟩
  · have : i.toNat < L.length := by omega
    simp [List.getD_eq_getElem?_getD, this]
  · simp [List.getD_eq_getElem?_getD, hj.symm]
set_option maxRecDepth 100000 in
set_option maxHeartbeats 8000000 in
theorem er_few (m : Mf) (v : Value) (L : List (List Int)) (i : Int) (dv : Value) (d : List Int) (pv : Value) (p : List Int) (w : World) (h : RowsAt w v L) (hd : IntsAt w dv d) (hp : CapI w pv p) (hF : fwB L d p = false) : Calls Try.prog 8 #[.agg #[.int .i64 m.v, .int .i64 m.c, .int .i64 m.s, .int .i64 m.r, .int .i64 m.t, v], .agg #[.int .i64 i, dv, pv]] w fun e w' => e = .returned (.bool true) ∧ Below w.heap.size w w' := by
  have H0 := Lib.hid (Below.refl w.heap.size w)
  have H1 := Lib.hid (h)
  have H2 := Lib.hid (hd)
  have H3 := Lib.hid (hp)
  obtain ⟨va, vc, rfl, -, -⟩ := h
  obtain ⟨da, dc, rfl, -, -⟩ := hd
  obtain ⟨-, pa, pc, rfl, -⟩ := hp
  replace hF := Lib.hid hF
  have H4 := Lib.hid (Cs.newB H0.out (w.heap.size) #[.int .i64 m.v, .int .i64 m.c, .int .i64 m.s, .int .i64 m.r, .int .i64 m.t, .slice va L.length vc] 27 (by simp))
  have H5 := Lib.hid (H1.out.step (al _ (.cells #[.int .i64 m.v, .int .i64 m.c, .int .i64 m.s, .int .i64 m.r, .int .i64 m.t, .slice va L.length vc] 27)))
  clear H1
  have H6 := Lib.hid (H2.out.step (al _ (.cells #[.int .i64 m.v, .int .i64 m.c, .int .i64 m.s, .int .i64 m.r, .int .i64 m.t, .slice va L.length vc] 27)))
  clear H2
  have H7 := Lib.hid (H3.out.step (al _ (.cells #[.int .i64 m.v, .int .i64 m.c, .int .i64 m.s, .int .i64 m.r, .int .i64 m.t, .slice va L.length vc] 27)))
  clear H3
  have H8 := Lib.hid (keep2 (al _ (.cells #[.int .i64 m.v, .int .i64 m.c, .int .i64 m.s, .int .i64 m.r, .int .i64 m.t, .slice va L.length vc] 27)) H0.out)
  clear H0
  have H9 := Lib.hid (Cs.newB H8.out (w.heap.size + 1) #[.int .i64 i, .slice da d.length dc, .slice pa p.length pc] 29 (by simp))
  have H10 := Lib.hid (H5.out.step (al _ (.cells #[.int .i64 i, .slice da d.length dc, .slice pa p.length pc] 29)))
  clear H5
  have H11 := Lib.hid (H6.out.step (al _ (.cells #[.int .i64 i, .slice da d.length dc, .slice pa p.length pc] 29)))
  clear H6
  have H12 := Lib.hid (H7.out.step (al _ (.cells #[.int .i64 i, .slice da d.length dc, .slice pa p.length pc] 29)))
  clear H7
  have H13 := Lib.hid (H4.out.step (al _ (.cells #[.int .i64 i, .slice da d.length dc, .slice pa p.length pc] 29)))
  clear H4
  have H14 := Lib.hid (keep2 (al _ (.cells #[.int .i64 i, .slice da d.length dc, .slice pa p.length pc] 29)) H8.out)
  clear H8
  go_enter Try.func8, Try.ntmps8
  have xs0 := H13.out.c 0 rfl
  have xs1 := H13.out.c 1 rfl
  have xs2 := H13.out.c 2 rfl
  have xs3 := H13.out.c 3 rfl
  have xs4 := H13.out.c 4 rfl
  have xs5 := H13.out.c 5 rfl
  have zs := H13.out.2.2
  have xp0 := H9.out.c 0 rfl
  have xp1 := H9.out.c 1 rfl
  have xp2 := H9.out.c 2 rfl
  have zp := H9.out.2.2
  go_wp2_with fail
  refine (head_any _).mono ?_
  rintro e u1 ⟨rfl, b1⟩
  clear xs0 xs1 xs2 xs3 xs4 xs5 zs xp0 xp1 xp2 zp
  have H15 := Lib.hid (H10.out.step b1)
  clear H10
  have H16 := Lib.hid (H11.out.step b1)
  clear H11
  have H17 := Lib.hid (H12.out.step b1)
  clear H12
  have H18 := Lib.hid (H13.out.step b1)
  clear H13
  have H19 := Lib.hid (H9.out.step b1)
  clear H9
  have H20 := Lib.hid (keep2 b1 H14.out)
  clear H14
  clear b1
  have xs0 := H18.out.c 0 rfl
  have xs1 := H18.out.c 1 rfl
  have xs2 := H18.out.c 2 rfl
  have xs3 := H18.out.c 3 rfl
  have xs4 := H18.out.c 4 rfl
  have xs5 := H18.out.c 5 rfl
  have zs := H18.out.2.2
  have xp0 := H19.out.c 0 rfl
  have xp1 := H19.out.c 1 rfl
  have xp2 := H19.out.c 2 rfl
  have zp := H19.out.2.2
  go_wp2_with fail
  refine (few_any m _ L i _ d _ p _ H15.out H16.out H17.out.1).mono ?_
  rintro e u2 ⟨rfl, b2⟩
  clear xs0 xs1 xs2 xs3 xs4 xs5 zs xp0 xp1 xp2 zp
  have H21 := Lib.hid (H15.out.step b2)
  clear H15
  have H22 := Lib.hid (H16.out.step b2)
  clear H16
  have H23 := Lib.hid (H17.out.step b2)
  clear H17
  have H24 := Lib.hid (H18.out.step b2)
  clear H18
  have H25 := Lib.hid (H19.out.step b2)
  clear H19
  have H26 := Lib.hid (keep2 b2 H20.out)
  clear H20
  clear b2
  rw [hF.out]
  have xs0 := H24.out.c 0 rfl
  have xs1 := H24.out.c 1 rfl
  have xs2 := H24.out.c 2 rfl
  have xs3 := H24.out.c 3 rfl
  have xs4 := H24.out.c 4 rfl
  have xs5 := H24.out.c 5 rfl
  have zs := H24.out.2.2
  have xp0 := H25.out.c 0 rfl
  have xp1 := H25.out.c 1 rfl
  have xp2 := H25.out.c 2 rfl
  have zp := H25.out.2.2
  go_wp2
  go_ret
  exact ⟨rfl, H26.out⟩
set_option maxRecDepth 100000 in
set_option maxHeartbeats 8000000 in
theorem er_slot (m : Mf) (v : Value) (L : List (List Int)) (i : Int) (dv : Value) (d : List Int) (pv : Value) (p : List Int) (w : World) (h : RowsAt w v L) (hd : IntsAt w dv d) (hp : CapI w pv p) (hF : fwB L d p = true) (hS : slB m L = false) : Calls Try.prog 8 #[.agg #[.int .i64 m.v, .int .i64 m.c, .int .i64 m.s, .int .i64 m.r, .int .i64 m.t, v], .agg #[.int .i64 i, dv, pv]] w fun e w' => e = .returned (.bool true) ∧ Below w.heap.size w w' := by
  have H0 := Lib.hid (Below.refl w.heap.size w)
  have H1 := Lib.hid (h)
  have H2 := Lib.hid (hd)
  have H3 := Lib.hid (hp)
  obtain ⟨va, vc, rfl, -, -⟩ := h
  obtain ⟨da, dc, rfl, -, -⟩ := hd
  obtain ⟨-, pa, pc, rfl, -⟩ := hp
  replace hF := Lib.hid hF
  replace hS := Lib.hid hS
  have H4 := Lib.hid (Cs.newB H0.out (w.heap.size) #[.int .i64 m.v, .int .i64 m.c, .int .i64 m.s, .int .i64 m.r, .int .i64 m.t, .slice va L.length vc] 27 (by simp))
  have H5 := Lib.hid (H1.out.step (al _ (.cells #[.int .i64 m.v, .int .i64 m.c, .int .i64 m.s, .int .i64 m.r, .int .i64 m.t, .slice va L.length vc] 27)))
  clear H1
  have H6 := Lib.hid (H2.out.step (al _ (.cells #[.int .i64 m.v, .int .i64 m.c, .int .i64 m.s, .int .i64 m.r, .int .i64 m.t, .slice va L.length vc] 27)))
  clear H2
  have H7 := Lib.hid (H3.out.step (al _ (.cells #[.int .i64 m.v, .int .i64 m.c, .int .i64 m.s, .int .i64 m.r, .int .i64 m.t, .slice va L.length vc] 27)))
  clear H3
  have H8 := Lib.hid (keep2 (al _ (.cells #[.int .i64 m.v, .int .i64 m.c, .int .i64 m.s, .int .i64 m.r, .int .i64 m.t, .slice va L.length vc] 27)) H0.out)
  clear H0
  have H9 := Lib.hid (Cs.newB H8.out (w.heap.size + 1) #[.int .i64 i, .slice da d.length dc, .slice pa p.length pc] 29 (by simp))
  have H10 := Lib.hid (H5.out.step (al _ (.cells #[.int .i64 i, .slice da d.length dc, .slice pa p.length pc] 29)))
  clear H5
  have H11 := Lib.hid (H6.out.step (al _ (.cells #[.int .i64 i, .slice da d.length dc, .slice pa p.length pc] 29)))
  clear H6
  have H12 := Lib.hid (H7.out.step (al _ (.cells #[.int .i64 i, .slice da d.length dc, .slice pa p.length pc] 29)))
  clear H7
  have H13 := Lib.hid (H4.out.step (al _ (.cells #[.int .i64 i, .slice da d.length dc, .slice pa p.length pc] 29)))
  clear H4
  have H14 := Lib.hid (keep2 (al _ (.cells #[.int .i64 i, .slice da d.length dc, .slice pa p.length pc] 29)) H8.out)
  clear H8
  go_enter Try.func8, Try.ntmps8
  have xs0 := H13.out.c 0 rfl
  have xs1 := H13.out.c 1 rfl
  have xs2 := H13.out.c 2 rfl
  have xs3 := H13.out.c 3 rfl
  have xs4 := H13.out.c 4 rfl
  have xs5 := H13.out.c 5 rfl
  have zs := H13.out.2.2
  have xp0 := H9.out.c 0 rfl
  have xp1 := H9.out.c 1 rfl
  have xp2 := H9.out.c 2 rfl
  have zp := H9.out.2.2
  go_wp2_with fail
  refine (head_any _).mono ?_
  rintro e u1 ⟨rfl, b1⟩
  clear xs0 xs1 xs2 xs3 xs4 xs5 zs xp0 xp1 xp2 zp
  have H15 := Lib.hid (H10.out.step b1)
  clear H10
  have H16 := Lib.hid (H11.out.step b1)
  clear H11
  have H17 := Lib.hid (H12.out.step b1)
  clear H12
  have H18 := Lib.hid (H13.out.step b1)
  clear H13
  have H19 := Lib.hid (H9.out.step b1)
  clear H9
  have H20 := Lib.hid (keep2 b1 H14.out)
  clear H14
  clear b1
  have xs0 := H18.out.c 0 rfl
  have xs1 := H18.out.c 1 rfl
  have xs2 := H18.out.c 2 rfl
  have xs3 := H18.out.c 3 rfl
  have xs4 := H18.out.c 4 rfl
  have xs5 := H18.out.c 5 rfl
  have zs := H18.out.2.2
  have xp0 := H19.out.c 0 rfl
  have xp1 := H19.out.c 1 rfl
  have xp2 := H19.out.c 2 rfl
  have zp := H19.out.2.2
  go_wp2_with fail
  refine (few_any m _ L i _ d _ p _ H15.out H16.out H17.out.1).mono ?_
  rintro e u2 ⟨rfl, b2⟩
  clear xs0 xs1 xs2 xs3 xs4 xs5 zs xp0 xp1 xp2 zp
  have H21 := Lib.hid (H15.out.step b2)
  clear H15
  have H22 := Lib.hid (H16.out.step b2)
  clear H16
  have H23 := Lib.hid (H17.out.step b2)
  clear H17
  have H24 := Lib.hid (H18.out.step b2)
  clear H18
  have H25 := Lib.hid (H19.out.step b2)
  clear H19
  have H26 := Lib.hid (keep2 b2 H20.out)
  clear H20
  clear b2
  rw [hF.out]
  have HFP := Lib.hid (fw_parts hF.out)
  have xs0 := H24.out.c 0 rfl
  have xs1 := H24.out.c 1 rfl
  have xs2 := H24.out.c 2 rfl
  have xs3 := H24.out.c 3 rfl
  have xs4 := H24.out.c 4 rfl
  have xs5 := H24.out.c 5 rfl
  have zs := H24.out.2.2
  have xp0 := H25.out.c 0 rfl
  have xp1 := H25.out.c 1 rfl
  have xp2 := H25.out.c 2 rfl
  have zp := H25.out.2.2
  go_wp2_with fail
  refine (rslot_any m _ L _ H21.out (by have := HFP.out.2.1; omega) (fun x hx => by have := HFP.out.1 x hx; omega)).mono ?_
  rintro e u3 ⟨rfl, b3⟩
  clear xs0 xs1 xs2 xs3 xs4 xs5 zs xp0 xp1 xp2 zp
  have H27 := Lib.hid (H21.out.step b3)
  clear H21
  have H28 := Lib.hid (H22.out.step b3)
  clear H22
  have H29 := Lib.hid (H23.out.step b3)
  clear H23
  have H30 := Lib.hid (H24.out.step b3)
  clear H24
  have H31 := Lib.hid (H25.out.step b3)
  clear H25
  have H32 := Lib.hid (keep2 b3 H26.out)
  clear H26
  clear b3
  rw [hS.out]
  have xs0 := H30.out.c 0 rfl
  have xs1 := H30.out.c 1 rfl
  have xs2 := H30.out.c 2 rfl
  have xs3 := H30.out.c 3 rfl
  have xs4 := H30.out.c 4 rfl
  have xs5 := H30.out.c 5 rfl
  have zs := H30.out.2.2
  have xp0 := H31.out.c 0 rfl
  have xp1 := H31.out.c 1 rfl
  have xp2 := H31.out.c 2 rfl
  have zp := H31.out.2.2
  go_wp2
  go_ret
  exact ⟨rfl, H32.out⟩
set_option maxRecDepth 100000 in
set_option maxHeartbeats 8000000 in
theorem er_f (m : Mf) (v : Value) (L : List (List Int)) (i : Int) (dv : Value) (d : List Int) (pv : Value) (p : List Int) (w : World) (h : RowsAt w v L) (hd : IntsAt w dv d) (hp : CapI w pv p) (hF : fwB L d p = true) (hS : slB m L = true) (hA : adE m L i d p = 24) : Calls Try.prog 8 #[.agg #[.int .i64 m.v, .int .i64 m.c, .int .i64 m.s, .int .i64 m.r, .int .i64 m.t, v], .agg #[.int .i64 i, dv, pv]] w fun e w' => e = .returned (.bool true) ∧ Below w.heap.size w w' := by
  have H0 := Lib.hid (Below.refl w.heap.size w)
  have H1 := Lib.hid (h)
  have H2 := Lib.hid (hd)
  have H3 := Lib.hid (hp)
  obtain ⟨va, vc, rfl, -, -⟩ := h
  obtain ⟨da, dc, rfl, -, -⟩ := hd
  obtain ⟨-, pa, pc, rfl, -⟩ := hp
  replace hF := Lib.hid hF
  replace hS := Lib.hid hS
  replace hA := Lib.hid hA
  have H4 := Lib.hid (Cs.newB H0.out (w.heap.size) #[.int .i64 m.v, .int .i64 m.c, .int .i64 m.s, .int .i64 m.r, .int .i64 m.t, .slice va L.length vc] 27 (by simp))
  have H5 := Lib.hid (H1.out.step (al _ (.cells #[.int .i64 m.v, .int .i64 m.c, .int .i64 m.s, .int .i64 m.r, .int .i64 m.t, .slice va L.length vc] 27)))
  clear H1
  have H6 := Lib.hid (H2.out.step (al _ (.cells #[.int .i64 m.v, .int .i64 m.c, .int .i64 m.s, .int .i64 m.r, .int .i64 m.t, .slice va L.length vc] 27)))
  clear H2
  have H7 := Lib.hid (H3.out.step (al _ (.cells #[.int .i64 m.v, .int .i64 m.c, .int .i64 m.s, .int .i64 m.r, .int .i64 m.t, .slice va L.length vc] 27)))
  clear H3
  have H8 := Lib.hid (keep2 (al _ (.cells #[.int .i64 m.v, .int .i64 m.c, .int .i64 m.s, .int .i64 m.r, .int .i64 m.t, .slice va L.length vc] 27)) H0.out)
  clear H0
  have H9 := Lib.hid (Cs.newB H8.out (w.heap.size + 1) #[.int .i64 i, .slice da d.length dc, .slice pa p.length pc] 29 (by simp))
  have H10 := Lib.hid (H5.out.step (al _ (.cells #[.int .i64 i, .slice da d.length dc, .slice pa p.length pc] 29)))
  clear H5
  have H11 := Lib.hid (H6.out.step (al _ (.cells #[.int .i64 i, .slice da d.length dc, .slice pa p.length pc] 29)))
  clear H6
  have H12 := Lib.hid (H7.out.step (al _ (.cells #[.int .i64 i, .slice da d.length dc, .slice pa p.length pc] 29)))
  clear H7
  have H13 := Lib.hid (H4.out.step (al _ (.cells #[.int .i64 i, .slice da d.length dc, .slice pa p.length pc] 29)))
  clear H4
  have H14 := Lib.hid (keep2 (al _ (.cells #[.int .i64 i, .slice da d.length dc, .slice pa p.length pc] 29)) H8.out)
  clear H8
  go_enter Try.func8, Try.ntmps8
  have xs0 := H13.out.c 0 rfl
  have xs1 := H13.out.c 1 rfl
  have xs2 := H13.out.c 2 rfl
  have xs3 := H13.out.c 3 rfl
  have xs4 := H13.out.c 4 rfl
  have xs5 := H13.out.c 5 rfl
  have zs := H13.out.2.2
  have xp0 := H9.out.c 0 rfl
  have xp1 := H9.out.c 1 rfl
  have xp2 := H9.out.c 2 rfl
  have zp := H9.out.2.2
  go_wp2_with fail
  refine (head_any _).mono ?_
  rintro e u1 ⟨rfl, b1⟩
  clear xs0 xs1 xs2 xs3 xs4 xs5 zs xp0 xp1 xp2 zp
  have H15 := Lib.hid (H10.out.step b1)
  clear H10
  have H16 := Lib.hid (H11.out.step b1)
  clear H11
  have H17 := Lib.hid (H12.out.step b1)
  clear H12
  have H18 := Lib.hid (H13.out.step b1)
  clear H13
  have H19 := Lib.hid (H9.out.step b1)
  clear H9
  have H20 := Lib.hid (keep2 b1 H14.out)
  clear H14
  clear b1
  have xs0 := H18.out.c 0 rfl
  have xs1 := H18.out.c 1 rfl
  have xs2 := H18.out.c 2 rfl
  have xs3 := H18.out.c 3 rfl
  have xs4 := H18.out.c 4 rfl
  have xs5 := H18.out.c 5 rfl
  have zs := H18.out.2.2
  have xp0 := H19.out.c 0 rfl
  have xp1 := H19.out.c 1 rfl
  have xp2 := H19.out.c 2 rfl
  have zp := H19.out.2.2
  go_wp2_with fail
  refine (few_any m _ L i _ d _ p _ H15.out H16.out H17.out.1).mono ?_
  rintro e u2 ⟨rfl, b2⟩
  clear xs0 xs1 xs2 xs3 xs4 xs5 zs xp0 xp1 xp2 zp
  have H21 := Lib.hid (H15.out.step b2)
  clear H15
  have H22 := Lib.hid (H16.out.step b2)
  clear H16
  have H23 := Lib.hid (H17.out.step b2)
  clear H17
  have H24 := Lib.hid (H18.out.step b2)
  clear H18
  have H25 := Lib.hid (H19.out.step b2)
  clear H19
  have H26 := Lib.hid (keep2 b2 H20.out)
  clear H20
  clear b2
  rw [hF.out]
  have HFP := Lib.hid (fw_parts hF.out)
  have xs0 := H24.out.c 0 rfl
  have xs1 := H24.out.c 1 rfl
  have xs2 := H24.out.c 2 rfl
  have xs3 := H24.out.c 3 rfl
  have xs4 := H24.out.c 4 rfl
  have xs5 := H24.out.c 5 rfl
  have zs := H24.out.2.2
  have xp0 := H25.out.c 0 rfl
  have xp1 := H25.out.c 1 rfl
  have xp2 := H25.out.c 2 rfl
  have zp := H25.out.2.2
  go_wp2_with fail
  refine (rslot_any m _ L _ H21.out (by have := HFP.out.2.1; omega) (fun x hx => by have := HFP.out.1 x hx; omega)).mono ?_
  rintro e u3 ⟨rfl, b3⟩
  clear xs0 xs1 xs2 xs3 xs4 xs5 zs xp0 xp1 xp2 zp
  have H27 := Lib.hid (H21.out.step b3)
  clear H21
  have H28 := Lib.hid (H22.out.step b3)
  clear H22
  have H29 := Lib.hid (H23.out.step b3)
  clear H23
  have H30 := Lib.hid (H24.out.step b3)
  clear H24
  have H31 := Lib.hid (H25.out.step b3)
  clear H25
  have H32 := Lib.hid (keep2 b3 H26.out)
  clear H26
  clear b3
  rw [hS.out]
  have xs0 := H30.out.c 0 rfl
  have xs1 := H30.out.c 1 rfl
  have xs2 := H30.out.c 2 rfl
  have xs3 := H30.out.c 3 rfl
  have xs4 := H30.out.c 4 rfl
  have xs5 := H30.out.c 5 rfl
  have zs := H30.out.2.2
  have xp0 := H31.out.c 0 rfl
  have xp1 := H31.out.c 1 rfl
  have xp2 := H31.out.c 2 rfl
  have zp := H31.out.2.2
  go_wp2_with fail
  obtain ⟨L1, hL1⟩ : ∃ z, adL m L i d p = z := ⟨_, rfl⟩
  have HL1 := Lib.hid hL1
  refine (add_any m i _ L _ d _ p _ H27.out H28.out H29.out (by have := HFP.out.2.1; omega) (fun x hx => by have := HFP.out.1 x hx; omega) (by have := HFP.out.2.2.1; omega) hA.out hL1).mono ?_
  rintro e u4 ⟨tv, n9, rfl, -, ho, b4⟩
  clear xs0 xs1 xs2 xs3 xs4 xs5 zs xp0 xp1 xp2 zp
  have H33 := Lib.hid (H27.out.step b4)
  clear H27
  have H34 := Lib.hid (H28.out.step b4)
  clear H28
  have H35 := Lib.hid (H29.out.step b4)
  clear H29
  have H36 := Lib.hid (H30.out.step b4)
  clear H30
  have H37 := Lib.hid (H31.out.step b4)
  clear H31
  have H38 := Lib.hid (keep2 b4 H32.out)
  clear H32
  clear b4
  clear hL1
  have hr0 := ho.rows
  rw [show L1 = L by rw [← HL1.out]; unfold adL; rw [if_neg (by rw [hA.out]; simp)]] at hr0
  obtain ⟨ra, rc, rfl⟩ : ∃ (a : Option Addr) (c : Nat), tv = .slice a L.length c := by
    obtain ⟨a, c, e, -⟩ := hr0
    exact ⟨a, c, e⟩
  have H39 := Lib.hid (hr0)
  clear hr0 ho
  have H40 := Lib.hid (Cs.newB H38.out (u4.heap.size) #[.int .i64 m.v, .int .i64 m.c, .int .i64 m.s, .int .i64 m.r, .int .i64 m.t, .slice ra L.length rc] 27 (by simp))
  have H41 := Lib.hid (H33.out.step (al _ (.cells #[.int .i64 m.v, .int .i64 m.c, .int .i64 m.s, .int .i64 m.r, .int .i64 m.t, .slice ra L.length rc] 27)))
  clear H33
  have H42 := Lib.hid (H34.out.step (al _ (.cells #[.int .i64 m.v, .int .i64 m.c, .int .i64 m.s, .int .i64 m.r, .int .i64 m.t, .slice ra L.length rc] 27)))
  clear H34
  have H43 := Lib.hid (H35.out.step (al _ (.cells #[.int .i64 m.v, .int .i64 m.c, .int .i64 m.s, .int .i64 m.r, .int .i64 m.t, .slice ra L.length rc] 27)))
  clear H35
  have H44 := Lib.hid (H36.out.step (al _ (.cells #[.int .i64 m.v, .int .i64 m.c, .int .i64 m.s, .int .i64 m.r, .int .i64 m.t, .slice ra L.length rc] 27)))
  clear H36
  have H45 := Lib.hid (H37.out.step (al _ (.cells #[.int .i64 m.v, .int .i64 m.c, .int .i64 m.s, .int .i64 m.r, .int .i64 m.t, .slice ra L.length rc] 27)))
  clear H37
  have H46 := Lib.hid (H39.out.step (al _ (.cells #[.int .i64 m.v, .int .i64 m.c, .int .i64 m.s, .int .i64 m.r, .int .i64 m.t, .slice ra L.length rc] 27)))
  clear H39
  have H47 := Lib.hid (keep2 (al _ (.cells #[.int .i64 m.v, .int .i64 m.c, .int .i64 m.s, .int .i64 m.r, .int .i64 m.t, .slice ra L.length rc] 27)) H38.out)
  clear H38
  have xs0 := H44.out.c 0 rfl
  have xs1 := H44.out.c 1 rfl
  have xs2 := H44.out.c 2 rfl
  have xs3 := H44.out.c 3 rfl
  have xs4 := H44.out.c 4 rfl
  have xs5 := H44.out.c 5 rfl
  have zs := H44.out.2.2
  have xp0 := H45.out.c 0 rfl
  have xp1 := H45.out.c 1 rfl
  have xp2 := H45.out.c 2 rfl
  have zp := H45.out.2.2
  have xt0 := H40.out.c 0 rfl
  have xt1 := H40.out.c 1 rfl
  have xt2 := H40.out.c 2 rfl
  have xt3 := H40.out.c 3 rfl
  have xt4 := H40.out.c 4 rfl
  have xt5 := H40.out.c 5 rfl
  have zt := H40.out.2.2
  go_wp2_with fail
  refine (same_slot m _ _ L _ H41.out H46.out (by have := HFP.out.2.1; omega)).mono ?_
  rintro e u5 ⟨rfl, b5⟩
  clear xs0 xs1 xs2 xs3 xs4 xs5 zs xp0 xp1 xp2 zp xt0 xt1 xt2 xt3 xt4 xt5 zt
  have H48 := Lib.hid (H41.out.step b5)
  clear H41
  have H49 := Lib.hid (H42.out.step b5)
  clear H42
  have H50 := Lib.hid (H43.out.step b5)
  clear H43
  have H51 := Lib.hid (H44.out.step b5)
  clear H44
  have H52 := Lib.hid (H45.out.step b5)
  clear H45
  have H53 := Lib.hid (H46.out.step b5)
  clear H46
  have H54 := Lib.hid (H40.out.step b5)
  clear H40
  have H55 := Lib.hid (keep2 b5 H47.out)
  clear H47
  clear b5
  have xs0 := H51.out.c 0 rfl
  have xs1 := H51.out.c 1 rfl
  have xs2 := H51.out.c 2 rfl
  have xs3 := H51.out.c 3 rfl
  have xs4 := H51.out.c 4 rfl
  have xs5 := H51.out.c 5 rfl
  have zs := H51.out.2.2
  have xp0 := H52.out.c 0 rfl
  have xp1 := H52.out.c 1 rfl
  have xp2 := H52.out.c 2 rfl
  have zp := H52.out.2.2
  have xt0 := H54.out.c 0 rfl
  have xt1 := H54.out.c 1 rfl
  have xt2 := H54.out.c 2 rfl
  have xt3 := H54.out.c 3 rfl
  have xt4 := H54.out.c 4 rfl
  have xt5 := H54.out.c 5 rfl
  have zt := H54.out.2.2
  go_wp2
  go_ret
  exact ⟨rfl, H55.out⟩
set_option maxRecDepth 100000 in
set_option maxHeartbeats 8000000 in
theorem er_g (m : Mf) (v : Value) (L : List (List Int)) (i : Int) (dv : Value) (d : List Int) (pv : Value) (p : List Int) (w : World) (h : RowsAt w v L) (hd : IntsAt w dv d) (hp : CapI w pv p) (hF : fwB L d p = true) (hS : slB m L = true) (hA : adE m L i d p = 17) : Calls Try.prog 8 #[.agg #[.int .i64 m.v, .int .i64 m.c, .int .i64 m.s, .int .i64 m.r, .int .i64 m.t, v], .agg #[.int .i64 i, dv, pv]] w fun e w' => e = .returned (.bool true) ∧ Below w.heap.size w w' := by
  have H0 := Lib.hid (Below.refl w.heap.size w)
  have H1 := Lib.hid (h)
  have H2 := Lib.hid (hd)
  have H3 := Lib.hid (hp)
  obtain ⟨va, vc, rfl, -, -⟩ := h
  obtain ⟨da, dc, rfl, -, -⟩ := hd
  obtain ⟨-, pa, pc, rfl, -⟩ := hp
  replace hF := Lib.hid hF
  replace hS := Lib.hid hS
  replace hA := Lib.hid hA
  have H4 := Lib.hid (Cs.newB H0.out (w.heap.size) #[.int .i64 m.v, .int .i64 m.c, .int .i64 m.s, .int .i64 m.r, .int .i64 m.t, .slice va L.length vc] 27 (by simp))
  have H5 := Lib.hid (H1.out.step (al _ (.cells #[.int .i64 m.v, .int .i64 m.c, .int .i64 m.s, .int .i64 m.r, .int .i64 m.t, .slice va L.length vc] 27)))
  clear H1
  have H6 := Lib.hid (H2.out.step (al _ (.cells #[.int .i64 m.v, .int .i64 m.c, .int .i64 m.s, .int .i64 m.r, .int .i64 m.t, .slice va L.length vc] 27)))
  clear H2
  have H7 := Lib.hid (H3.out.step (al _ (.cells #[.int .i64 m.v, .int .i64 m.c, .int .i64 m.s, .int .i64 m.r, .int .i64 m.t, .slice va L.length vc] 27)))
  clear H3
  have H8 := Lib.hid (keep2 (al _ (.cells #[.int .i64 m.v, .int .i64 m.c, .int .i64 m.s, .int .i64 m.r, .int .i64 m.t, .slice va L.length vc] 27)) H0.out)
  clear H0
  have H9 := Lib.hid (Cs.newB H8.out (w.heap.size + 1) #[.int .i64 i, .slice da d.length dc, .slice pa p.length pc] 29 (by simp))
  have H10 := Lib.hid (H5.out.step (al _ (.cells #[.int .i64 i, .slice da d.length dc, .slice pa p.length pc] 29)))
  clear H5
  have H11 := Lib.hid (H6.out.step (al _ (.cells #[.int .i64 i, .slice da d.length dc, .slice pa p.length pc] 29)))
  clear H6
  have H12 := Lib.hid (H7.out.step (al _ (.cells #[.int .i64 i, .slice da d.length dc, .slice pa p.length pc] 29)))
  clear H7
  have H13 := Lib.hid (H4.out.step (al _ (.cells #[.int .i64 i, .slice da d.length dc, .slice pa p.length pc] 29)))
  clear H4
  have H14 := Lib.hid (keep2 (al _ (.cells #[.int .i64 i, .slice da d.length dc, .slice pa p.length pc] 29)) H8.out)
  clear H8
  go_enter Try.func8, Try.ntmps8
  have xs0 := H13.out.c 0 rfl
  have xs1 := H13.out.c 1 rfl
  have xs2 := H13.out.c 2 rfl
  have xs3 := H13.out.c 3 rfl
  have xs4 := H13.out.c 4 rfl
  have xs5 := H13.out.c 5 rfl
  have zs := H13.out.2.2
  have xp0 := H9.out.c 0 rfl
  have xp1 := H9.out.c 1 rfl
  have xp2 := H9.out.c 2 rfl
  have zp := H9.out.2.2
  go_wp2_with fail
  refine (head_any _).mono ?_
  rintro e u1 ⟨rfl, b1⟩
  clear xs0 xs1 xs2 xs3 xs4 xs5 zs xp0 xp1 xp2 zp
  have H15 := Lib.hid (H10.out.step b1)
  clear H10
  have H16 := Lib.hid (H11.out.step b1)
  clear H11
  have H17 := Lib.hid (H12.out.step b1)
  clear H12
  have H18 := Lib.hid (H13.out.step b1)
  clear H13
  have H19 := Lib.hid (H9.out.step b1)
  clear H9
  have H20 := Lib.hid (keep2 b1 H14.out)
  clear H14
  clear b1
  have xs0 := H18.out.c 0 rfl
  have xs1 := H18.out.c 1 rfl
  have xs2 := H18.out.c 2 rfl
  have xs3 := H18.out.c 3 rfl
  have xs4 := H18.out.c 4 rfl
  have xs5 := H18.out.c 5 rfl
  have zs := H18.out.2.2
  have xp0 := H19.out.c 0 rfl
  have xp1 := H19.out.c 1 rfl
  have xp2 := H19.out.c 2 rfl
  have zp := H19.out.2.2
  go_wp2_with fail
  refine (few_any m _ L i _ d _ p _ H15.out H16.out H17.out.1).mono ?_
  rintro e u2 ⟨rfl, b2⟩
  clear xs0 xs1 xs2 xs3 xs4 xs5 zs xp0 xp1 xp2 zp
  have H21 := Lib.hid (H15.out.step b2)
  clear H15
  have H22 := Lib.hid (H16.out.step b2)
  clear H16
  have H23 := Lib.hid (H17.out.step b2)
  clear H17
  have H24 := Lib.hid (H18.out.step b2)
  clear H18
  have H25 := Lib.hid (H19.out.step b2)
  clear H19
  have H26 := Lib.hid (keep2 b2 H20.out)
  clear H20
  clear b2
  rw [hF.out]
  have HFP := Lib.hid (fw_parts hF.out)
  have xs0 := H24.out.c 0 rfl
  have xs1 := H24.out.c 1 rfl
  have xs2 := H24.out.c 2 rfl
  have xs3 := H24.out.c 3 rfl
  have xs4 := H24.out.c 4 rfl
  have xs5 := H24.out.c 5 rfl
  have zs := H24.out.2.2
  have xp0 := H25.out.c 0 rfl
  have xp1 := H25.out.c 1 rfl
  have xp2 := H25.out.c 2 rfl
  have zp := H25.out.2.2
  go_wp2_with fail
  refine (rslot_any m _ L _ H21.out (by have := HFP.out.2.1; omega) (fun x hx => by have := HFP.out.1 x hx; omega)).mono ?_
  rintro e u3 ⟨rfl, b3⟩
  clear xs0 xs1 xs2 xs3 xs4 xs5 zs xp0 xp1 xp2 zp
  have H27 := Lib.hid (H21.out.step b3)
  clear H21
  have H28 := Lib.hid (H22.out.step b3)
  clear H22
  have H29 := Lib.hid (H23.out.step b3)
  clear H23
  have H30 := Lib.hid (H24.out.step b3)
  clear H24
  have H31 := Lib.hid (H25.out.step b3)
  clear H25
  have H32 := Lib.hid (keep2 b3 H26.out)
  clear H26
  clear b3
  rw [hS.out]
  have xs0 := H30.out.c 0 rfl
  have xs1 := H30.out.c 1 rfl
  have xs2 := H30.out.c 2 rfl
  have xs3 := H30.out.c 3 rfl
  have xs4 := H30.out.c 4 rfl
  have xs5 := H30.out.c 5 rfl
  have zs := H30.out.2.2
  have xp0 := H31.out.c 0 rfl
  have xp1 := H31.out.c 1 rfl
  have xp2 := H31.out.c 2 rfl
  have zp := H31.out.2.2
  go_wp2_with fail
  obtain ⟨L1, hL1⟩ : ∃ z, adL m L i d p = z := ⟨_, rfl⟩
  have HL1 := Lib.hid hL1
  refine (add_any m i _ L _ d _ p _ H27.out H28.out H29.out (by have := HFP.out.2.1; omega) (fun x hx => by have := HFP.out.1 x hx; omega) (by have := HFP.out.2.2.1; omega) hA.out hL1).mono ?_
  rintro e u4 ⟨tv, n9, rfl, -, ho, b4⟩
  clear xs0 xs1 xs2 xs3 xs4 xs5 zs xp0 xp1 xp2 zp
  have H33 := Lib.hid (H27.out.step b4)
  clear H27
  have H34 := Lib.hid (H28.out.step b4)
  clear H28
  have H35 := Lib.hid (H29.out.step b4)
  clear H29
  have H36 := Lib.hid (H30.out.step b4)
  clear H30
  have H37 := Lib.hid (H31.out.step b4)
  clear H31
  have H38 := Lib.hid (keep2 b4 H32.out)
  clear H32
  clear b4
  clear hL1
  have hr0 := ho.rows
  rw [show L1 = L by rw [← HL1.out]; unfold adL; rw [if_neg (by rw [hA.out]; simp)]] at hr0
  obtain ⟨ra, rc, rfl⟩ : ∃ (a : Option Addr) (c : Nat), tv = .slice a L.length c := by
    obtain ⟨a, c, e, -⟩ := hr0
    exact ⟨a, c, e⟩
  have H39 := Lib.hid (hr0)
  clear hr0 ho
  have H40 := Lib.hid (Cs.newB H38.out (u4.heap.size) #[.int .i64 m.v, .int .i64 m.c, .int .i64 m.s, .int .i64 m.r, .int .i64 m.t, .slice ra L.length rc] 27 (by simp))
  have H41 := Lib.hid (H33.out.step (al _ (.cells #[.int .i64 m.v, .int .i64 m.c, .int .i64 m.s, .int .i64 m.r, .int .i64 m.t, .slice ra L.length rc] 27)))
  clear H33
  have H42 := Lib.hid (H34.out.step (al _ (.cells #[.int .i64 m.v, .int .i64 m.c, .int .i64 m.s, .int .i64 m.r, .int .i64 m.t, .slice ra L.length rc] 27)))
  clear H34
  have H43 := Lib.hid (H35.out.step (al _ (.cells #[.int .i64 m.v, .int .i64 m.c, .int .i64 m.s, .int .i64 m.r, .int .i64 m.t, .slice ra L.length rc] 27)))
  clear H35
  have H44 := Lib.hid (H36.out.step (al _ (.cells #[.int .i64 m.v, .int .i64 m.c, .int .i64 m.s, .int .i64 m.r, .int .i64 m.t, .slice ra L.length rc] 27)))
  clear H36
  have H45 := Lib.hid (H37.out.step (al _ (.cells #[.int .i64 m.v, .int .i64 m.c, .int .i64 m.s, .int .i64 m.r, .int .i64 m.t, .slice ra L.length rc] 27)))
  clear H37
  have H46 := Lib.hid (H39.out.step (al _ (.cells #[.int .i64 m.v, .int .i64 m.c, .int .i64 m.s, .int .i64 m.r, .int .i64 m.t, .slice ra L.length rc] 27)))
  clear H39
  have H47 := Lib.hid (keep2 (al _ (.cells #[.int .i64 m.v, .int .i64 m.c, .int .i64 m.s, .int .i64 m.r, .int .i64 m.t, .slice ra L.length rc] 27)) H38.out)
  clear H38
  have xs0 := H44.out.c 0 rfl
  have xs1 := H44.out.c 1 rfl
  have xs2 := H44.out.c 2 rfl
  have xs3 := H44.out.c 3 rfl
  have xs4 := H44.out.c 4 rfl
  have xs5 := H44.out.c 5 rfl
  have zs := H44.out.2.2
  have xp0 := H45.out.c 0 rfl
  have xp1 := H45.out.c 1 rfl
  have xp2 := H45.out.c 2 rfl
  have zp := H45.out.2.2
  have xt0 := H40.out.c 0 rfl
  have xt1 := H40.out.c 1 rfl
  have xt2 := H40.out.c 2 rfl
  have xt3 := H40.out.c 3 rfl
  have xt4 := H40.out.c 4 rfl
  have xt5 := H40.out.c 5 rfl
  have zt := H40.out.2.2
  go_wp2_with fail
  refine (same_slot m _ _ L _ H41.out H46.out (by have := HFP.out.2.1; omega)).mono ?_
  rintro e u5 ⟨rfl, b5⟩
  clear xs0 xs1 xs2 xs3 xs4 xs5 zs xp0 xp1 xp2 zp xt0 xt1 xt2 xt3 xt4 xt5 zt
  have H48 := Lib.hid (H41.out.step b5)
  clear H41
  have H49 := Lib.hid (H42.out.step b5)
  clear H42
  have H50 := Lib.hid (H43.out.step b5)
  clear H43
  have H51 := Lib.hid (H44.out.step b5)
  clear H44
  have H52 := Lib.hid (H45.out.step b5)
  clear H45
  have H53 := Lib.hid (H46.out.step b5)
  clear H46
  have H54 := Lib.hid (H40.out.step b5)
  clear H40
  have H55 := Lib.hid (keep2 b5 H47.out)
  clear H47
  clear b5
  have xs0 := H51.out.c 0 rfl
  have xs1 := H51.out.c 1 rfl
  have xs2 := H51.out.c 2 rfl
  have xs3 := H51.out.c 3 rfl
  have xs4 := H51.out.c 4 rfl
  have xs5 := H51.out.c 5 rfl
  have zs := H51.out.2.2
  have xp0 := H52.out.c 0 rfl
  have xp1 := H52.out.c 1 rfl
  have xp2 := H52.out.c 2 rfl
  have zp := H52.out.2.2
  have xt0 := H54.out.c 0 rfl
  have xt1 := H54.out.c 1 rfl
  have xt2 := H54.out.c 2 rfl
  have xt3 := H54.out.c 3 rfl
  have xt4 := H54.out.c 4 rfl
  have xt5 := H54.out.c 5 rfl
  have zt := H54.out.2.2
  go_wp2
  go_ret
  exact ⟨rfl, H55.out⟩
set_option maxRecDepth 100000 in
set_option maxHeartbeats 8000000 in
theorem er_y (m : Mf) (v : Value) (L : List (List Int)) (k : Nat) (dv : Value) (d : List Int) (pv : Value) (p : List Int) (w : World) (h : RowsAt w v L) (hd : IntsAt w dv d) (hp : CapI w pv p) (hF : fwB L d p = true) (hS : slB m L = true) (hA : adE m L (k : Int) d p = 0) : Calls Try.prog 8 #[.agg #[.int .i64 m.v, .int .i64 m.c, .int .i64 m.s, .int .i64 m.r, .int .i64 m.t, v], .agg #[.int .i64 (k : Int), dv, pv]] w fun e w' => e = .returned (.bool true) ∧ Below w.heap.size w w' := by
  have H0 := Lib.hid (Below.refl w.heap.size w)
  have H1 := Lib.hid (h)
  have H2 := Lib.hid (hd)
  have H3 := Lib.hid (hp)
  obtain ⟨va, vc, rfl, -, -⟩ := h
  obtain ⟨da, dc, rfl, -, -⟩ := hd
  obtain ⟨-, pa, pc, rfl, -⟩ := hp
  replace hF := Lib.hid hF
  replace hS := Lib.hid hS
  replace hA := Lib.hid hA
  have H4 := Lib.hid (Cs.newB H0.out (w.heap.size) #[.int .i64 m.v, .int .i64 m.c, .int .i64 m.s, .int .i64 m.r, .int .i64 m.t, .slice va L.length vc] 27 (by simp))
  have H5 := Lib.hid (H1.out.step (al _ (.cells #[.int .i64 m.v, .int .i64 m.c, .int .i64 m.s, .int .i64 m.r, .int .i64 m.t, .slice va L.length vc] 27)))
  clear H1
  have H6 := Lib.hid (H2.out.step (al _ (.cells #[.int .i64 m.v, .int .i64 m.c, .int .i64 m.s, .int .i64 m.r, .int .i64 m.t, .slice va L.length vc] 27)))
  clear H2
  have H7 := Lib.hid (H3.out.step (al _ (.cells #[.int .i64 m.v, .int .i64 m.c, .int .i64 m.s, .int .i64 m.r, .int .i64 m.t, .slice va L.length vc] 27)))
  clear H3
  have H8 := Lib.hid (keep2 (al _ (.cells #[.int .i64 m.v, .int .i64 m.c, .int .i64 m.s, .int .i64 m.r, .int .i64 m.t, .slice va L.length vc] 27)) H0.out)
  clear H0
  have H9 := Lib.hid (Cs.newB H8.out (w.heap.size + 1) #[.int .i64 (k : Int), .slice da d.length dc, .slice pa p.length pc] 29 (by simp))
  have H10 := Lib.hid (H5.out.step (al _ (.cells #[.int .i64 (k : Int), .slice da d.length dc, .slice pa p.length pc] 29)))
  clear H5
  have H11 := Lib.hid (H6.out.step (al _ (.cells #[.int .i64 (k : Int), .slice da d.length dc, .slice pa p.length pc] 29)))
  clear H6
  have H12 := Lib.hid (H7.out.step (al _ (.cells #[.int .i64 (k : Int), .slice da d.length dc, .slice pa p.length pc] 29)))
  clear H7
  have H13 := Lib.hid (H4.out.step (al _ (.cells #[.int .i64 (k : Int), .slice da d.length dc, .slice pa p.length pc] 29)))
  clear H4
  have H14 := Lib.hid (keep2 (al _ (.cells #[.int .i64 (k : Int), .slice da d.length dc, .slice pa p.length pc] 29)) H8.out)
  clear H8
  go_enter Try.func8, Try.ntmps8
  have xs0 := H13.out.c 0 rfl
  have xs1 := H13.out.c 1 rfl
  have xs2 := H13.out.c 2 rfl
  have xs3 := H13.out.c 3 rfl
  have xs4 := H13.out.c 4 rfl
  have xs5 := H13.out.c 5 rfl
  have zs := H13.out.2.2
  have xp0 := H9.out.c 0 rfl
  have xp1 := H9.out.c 1 rfl
  have xp2 := H9.out.c 2 rfl
  have zp := H9.out.2.2
  go_wp2_with fail
  refine (head_any _).mono ?_
  rintro e u1 ⟨rfl, b1⟩
  clear xs0 xs1 xs2 xs3 xs4 xs5 zs xp0 xp1 xp2 zp
  have H15 := Lib.hid (H10.out.step b1)
  clear H10
  have H16 := Lib.hid (H11.out.step b1)
  clear H11
  have H17 := Lib.hid (H12.out.step b1)
  clear H12
  have H18 := Lib.hid (H13.out.step b1)
  clear H13
  have H19 := Lib.hid (H9.out.step b1)
  clear H9
  have H20 := Lib.hid (keep2 b1 H14.out)
  clear H14
  clear b1
  have xs0 := H18.out.c 0 rfl
  have xs1 := H18.out.c 1 rfl
  have xs2 := H18.out.c 2 rfl
  have xs3 := H18.out.c 3 rfl
  have xs4 := H18.out.c 4 rfl
  have xs5 := H18.out.c 5 rfl
  have zs := H18.out.2.2
  have xp0 := H19.out.c 0 rfl
  have xp1 := H19.out.c 1 rfl
  have xp2 := H19.out.c 2 rfl
  have zp := H19.out.2.2
  go_wp2_with fail
  refine (few_any m _ L (k : Int) _ d _ p _ H15.out H16.out H17.out.1).mono ?_
  rintro e u2 ⟨rfl, b2⟩
  clear xs0 xs1 xs2 xs3 xs4 xs5 zs xp0 xp1 xp2 zp
  have H21 := Lib.hid (H15.out.step b2)
  clear H15
  have H22 := Lib.hid (H16.out.step b2)
  clear H16
  have H23 := Lib.hid (H17.out.step b2)
  clear H17
  have H24 := Lib.hid (H18.out.step b2)
  clear H18
  have H25 := Lib.hid (H19.out.step b2)
  clear H19
  have H26 := Lib.hid (keep2 b2 H20.out)
  clear H20
  clear b2
  rw [hF.out]
  have HFP := Lib.hid (fw_parts hF.out)
  have xs0 := H24.out.c 0 rfl
  have xs1 := H24.out.c 1 rfl
  have xs2 := H24.out.c 2 rfl
  have xs3 := H24.out.c 3 rfl
  have xs4 := H24.out.c 4 rfl
  have xs5 := H24.out.c 5 rfl
  have zs := H24.out.2.2
  have xp0 := H25.out.c 0 rfl
  have xp1 := H25.out.c 1 rfl
  have xp2 := H25.out.c 2 rfl
  have zp := H25.out.2.2
  go_wp2_with fail
  refine (rslot_any m _ L _ H21.out (by have := HFP.out.2.1; omega) (fun x hx => by have := HFP.out.1 x hx; omega)).mono ?_
  rintro e u3 ⟨rfl, b3⟩
  clear xs0 xs1 xs2 xs3 xs4 xs5 zs xp0 xp1 xp2 zp
  have H27 := Lib.hid (H21.out.step b3)
  clear H21
  have H28 := Lib.hid (H22.out.step b3)
  clear H22
  have H29 := Lib.hid (H23.out.step b3)
  clear H23
  have H30 := Lib.hid (H24.out.step b3)
  clear H24
  have H31 := Lib.hid (H25.out.step b3)
  clear H25
  have H32 := Lib.hid (keep2 b3 H26.out)
  clear H26
  clear b3
  rw [hS.out]
  have xs0 := H30.out.c 0 rfl
  have xs1 := H30.out.c 1 rfl
  have xs2 := H30.out.c 2 rfl
  have xs3 := H30.out.c 3 rfl
  have xs4 := H30.out.c 4 rfl
  have xs5 := H30.out.c 5 rfl
  have zs := H30.out.2.2
  have xp0 := H31.out.c 0 rfl
  have xp1 := H31.out.c 1 rfl
  have xp2 := H31.out.c 2 rfl
  have zp := H31.out.2.2
  go_wp2_with fail
  obtain ⟨L1, hL1⟩ : ∃ z, adL m L (k : Int) d p = z := ⟨_, rfl⟩
  have HL1 := Lib.hid hL1
  refine (add_any m (k : Int) _ L _ d _ p _ H27.out H28.out H29.out (by have := HFP.out.2.1; omega) (fun x hx => by have := HFP.out.1 x hx; omega) (by have := HFP.out.2.2.1; omega) hA.out hL1).mono ?_
  rintro e u4 ⟨tv, n9, rfl, -, ho, b4⟩
  clear xs0 xs1 xs2 xs3 xs4 xs5 zs xp0 xp1 xp2 zp
  have H33 := Lib.hid (H27.out.step b4)
  clear H27
  have H34 := Lib.hid (H28.out.step b4)
  clear H28
  have H35 := Lib.hid (H29.out.step b4)
  clear H29
  have H36 := Lib.hid (H30.out.step b4)
  clear H30
  have H37 := Lib.hid (H31.out.step b4)
  clear H31
  have H38 := Lib.hid (keep2 b4 H32.out)
  clear H32
  clear b4
  clear hL1
  have HAF := Lib.hid (al_facts hA.out)
  rw [HL1.out, Int.toNat_natCast] at HAF
  have HLN := Lib.hid HAF.out.2.2.1
  have HKL := Lib.hid (show k < L.length by have := HAF.out.2.1; omega)
  have HK1 := Lib.hid (show k < L1.length by rw [HLN.out]; exact HKL.out)
  obtain ⟨UA, hUA⟩ : ∃ z9, u4 = z9 := ⟨_, rfl⟩
  rw [hUA] at H33 H34 H35 H36 H37 H38 ho ⊢
  clear hUA
  have hr0 := ho.rows
  obtain ⟨ra, rc, rfl⟩ : ∃ (a : Option Addr) (c : Nat), tv = .slice a L1.length c := by
    obtain ⟨a, c, e, -⟩ := hr0
    exact ⟨a, c, e⟩
  have H39 := Lib.hid (hr0)
  clear hr0 ho
  obtain ⟨bt, ot, rfl, ta, tc, tx, tz, ty⟩ := rows_at H39.out HK1.out
  rw [HAF.out.2.2.2.1] at tx ty
  have HTX := Lib.hid tx
  have HTZ := Lib.hid tz
  clear tx tz
  have H40 := Lib.hid (ty)
  clear ty
  rw [HLN.out]
  have HTX2 := Lib.hid (keep1 (al UA (.cells #[.int .i64 m.v, .int .i64 m.c, .int .i64 m.s, .int .i64 m.r, .int .i64 m.t, .slice (some ⟨bt, ot, none⟩) L.length rc] 27)) HTX.out)
  have HTZ2 := Lib.hid (Nat.lt_of_lt_of_le HTZ.out (al UA (.cells #[.int .i64 m.v, .int .i64 m.c, .int .i64 m.s, .int .i64 m.r, .int .i64 m.t, .slice (some ⟨bt, ot, none⟩) L.length rc] 27)).size)
  clear HTX HTZ
  have H41 := Lib.hid (Cs.newB H38.out (UA.heap.size) #[.int .i64 m.v, .int .i64 m.c, .int .i64 m.s, .int .i64 m.r, .int .i64 m.t, .slice (some ⟨bt, ot, none⟩) L.length rc] 27 (by simp))
  have H42 := Lib.hid (H33.out.step (al _ (.cells #[.int .i64 m.v, .int .i64 m.c, .int .i64 m.s, .int .i64 m.r, .int .i64 m.t, .slice (some ⟨bt, ot, none⟩) L.length rc] 27)))
  clear H33
  have H43 := Lib.hid (H34.out.step (al _ (.cells #[.int .i64 m.v, .int .i64 m.c, .int .i64 m.s, .int .i64 m.r, .int .i64 m.t, .slice (some ⟨bt, ot, none⟩) L.length rc] 27)))
  clear H34
  have H44 := Lib.hid (H35.out.step (al _ (.cells #[.int .i64 m.v, .int .i64 m.c, .int .i64 m.s, .int .i64 m.r, .int .i64 m.t, .slice (some ⟨bt, ot, none⟩) L.length rc] 27)))
  clear H35
  have H45 := Lib.hid (H36.out.step (al _ (.cells #[.int .i64 m.v, .int .i64 m.c, .int .i64 m.s, .int .i64 m.r, .int .i64 m.t, .slice (some ⟨bt, ot, none⟩) L.length rc] 27)))
  clear H36
  have H46 := Lib.hid (H37.out.step (al _ (.cells #[.int .i64 m.v, .int .i64 m.c, .int .i64 m.s, .int .i64 m.r, .int .i64 m.t, .slice (some ⟨bt, ot, none⟩) L.length rc] 27)))
  clear H37
  have H47 := Lib.hid (H39.out.step (al _ (.cells #[.int .i64 m.v, .int .i64 m.c, .int .i64 m.s, .int .i64 m.r, .int .i64 m.t, .slice (some ⟨bt, ot, none⟩) L.length rc] 27)))
  clear H39
  have H48 := Lib.hid (H40.out.step (al _ (.cells #[.int .i64 m.v, .int .i64 m.c, .int .i64 m.s, .int .i64 m.r, .int .i64 m.t, .slice (some ⟨bt, ot, none⟩) L.length rc] 27)))
  clear H40
  have H49 := Lib.hid (keep2 (al _ (.cells #[.int .i64 m.v, .int .i64 m.c, .int .i64 m.s, .int .i64 m.r, .int .i64 m.t, .slice (some ⟨bt, ot, none⟩) L.length rc] 27)) H38.out)
  clear H38
  have xs0 := H45.out.c 0 rfl
  have xs1 := H45.out.c 1 rfl
  have xs2 := H45.out.c 2 rfl
  have xs3 := H45.out.c 3 rfl
  have xs4 := H45.out.c 4 rfl
  have xs5 := H45.out.c 5 rfl
  have zs := H45.out.2.2
  have xp0 := H46.out.c 0 rfl
  have xp1 := H46.out.c 1 rfl
  have xp2 := H46.out.c 2 rfl
  have zp := H46.out.2.2
  have xt0 := H41.out.c 0 rfl
  have xt1 := H41.out.c 1 rfl
  have xt2 := H41.out.c 2 rfl
  have xt3 := H41.out.c 3 rfl
  have xt4 := H41.out.c 4 rfl
  have xt5 := H41.out.c 5 rfl
  have zt := H41.out.2.2
  go_upto_region 7 with fail
  clear xs0 xs1 xs2 xs3 xs4 xs5 zs xp0 xp1 xp2 zp xt0 xt1 xt2 xt3 xt4 xt5 zt
  obtain ⟨U7, hU7⟩ : ∃ z9, (UA.alloc (.cells #[.int .i64 m.v, .int .i64 m.c, .int .i64 m.s, .int .i64 m.r, .int .i64 m.t, .slice (some ⟨bt, ot, none⟩) L.length rc] 27)) = z9 := ⟨_, rfl⟩
  rw [hU7] at H42 H43 H44 H45 H46 H47 H48 H41 H49 HTX2 HTZ2 ⊢
  clear hU7
  obtain ⟨lit, hlit⟩ : ∃ lit : (Nat → Value) → Act, lit = fun vs => { tmps := List.toArray (Value.agg #[Value.int IntKind.i64 m.v, Value.int IntKind.i64 m.c, Value.int IntKind.i64 m.s, Value.int IntKind.i64 m.r, Value.int IntKind.i64 m.t, Value.slice va L.length vc] :: Value.agg #[Value.int IntKind.i64 (k : Int), Value.slice da d.length dc, Value.slice pa p.length pc] :: Value.pointer (some { block := w.heap.size, off := 0 }) :: Value.pointer (some { block := w.heap.size + 1, off := 0 }) :: Value.bool false :: Value.bool true :: Value.pointer (some { block := UA.heap.size, off := 0 }) :: Value.int IntKind.i64 0 :: undef :: Value.bool true :: Value.agg #[Value.int IntKind.i64 m.v, Value.int IntKind.i64 m.c, Value.int IntKind.i64 m.s, Value.int IntKind.i64 m.r, Value.int IntKind.i64 m.t, Value.slice va L.length vc] :: Value.agg #[Value.int IntKind.i64 (k : Int), Value.slice da d.length dc, Value.slice pa p.length pc] :: Value.bool true :: Value.bool false :: Value.bool false :: Value.agg #[Value.int IntKind.i64 m.v, Value.int IntKind.i64 m.c, Value.int IntKind.i64 m.s, Value.int IntKind.i64 m.r, Value.int IntKind.i64 m.t, Value.slice va L.length vc] :: Value.bool true :: Value.bool false :: Value.bool false :: undef :: Value.tuple #[Value.agg #[Value.int IntKind.i64 m.v, Value.int IntKind.i64 m.c, Value.int IntKind.i64 m.s, Value.int IntKind.i64 m.r, Value.int IntKind.i64 m.t, Value.slice (some { block := bt, off := ot }) L.length rc], Value.int IntKind.i64 0] :: Value.agg #[Value.int IntKind.i64 m.v, Value.int IntKind.i64 m.c, Value.int IntKind.i64 m.s, Value.int IntKind.i64 m.r, Value.int IntKind.i64 m.t, Value.slice va L.length vc] :: Value.agg #[Value.int IntKind.i64 (k : Int), Value.slice da d.length dc, Value.slice pa p.length pc] :: Value.tuple #[Value.agg #[Value.int IntKind.i64 m.v, Value.int IntKind.i64 m.c, Value.int IntKind.i64 m.s, Value.int IntKind.i64 m.r, Value.int IntKind.i64 m.t, Value.slice (some { block := bt, off := ot }) L.length rc], Value.int IntKind.i64 0] :: Value.agg #[Value.int IntKind.i64 m.v, Value.int IntKind.i64 m.c, Value.int IntKind.i64 m.s, Value.int IntKind.i64 m.r, Value.int IntKind.i64 m.t, Value.slice (some { block := bt, off := ot }) L.length rc] :: Value.int IntKind.i64 0 :: Value.int IntKind.i64 0 :: Value.bool false :: undef :: undef :: undef :: undef :: undef :: undef :: vs 0 :: vs 1 :: vs 2 :: vs 3 :: vs 4 :: vs 5 :: vs 6 :: vs 7 :: vs 8 :: vs 9 :: vs 10 :: vs 11 :: vs 12 :: vs 13 :: vs 14 :: vs 15 :: vs 16 :: vs 17 :: vs 18 :: vs 19 :: vs 20 :: vs 21 :: vs 22 :: vs 23 :: vs 24 :: vs 25 :: vs 26 :: vs 27 :: vs 28 :: vs 29 :: vs 30 :: vs 31 :: vs 32 :: vs 33 :: vs 34 :: vs 35 :: vs 36 :: vs 37 :: vs 38 :: undef :: undef :: undef :: undef :: undef :: undef :: undef :: undef :: undef :: undef :: undef :: undef :: undef :: undef :: undef :: undef :: undef :: undef :: undef :: undef :: undef :: undef :: undef :: undef :: undef :: undef :: []), defers := [] } := ⟨_, rfl⟩
  have HLIT := Lib.hid hlit
  clear hlit
  obtain ⟨val, hval⟩ : ∃ val : List Value, val = [.pointer (some ⟨(UA.heap.size), 0, none⟩), .agg #[.int .i64 m.v, .int .i64 m.c, .int .i64 m.s, .int .i64 m.r, .int .i64 m.t], .pointer (some ⟨(w.heap.size), 0, none⟩), .agg #[.int .i64 m.v, .int .i64 m.c, .int .i64 m.s, .int .i64 m.r, .int .i64 m.t], .bool false, .bool false, .pointer (some ⟨(UA.heap.size), 5, none⟩), .slice (some ⟨bt, ot, none⟩) L.length rc, .int .i64 (L.length : Int), .pointer (some ⟨(w.heap.size), 5, none⟩), .slice va L.length vc, .int .i64 (L.length : Int), .bool false, .bool false, .bool false, .pointer (some ⟨(w.heap.size + 1), 0, none⟩), .int .i64 (k : Int), .bool false, .bool false, .bool false, .pointer (some ⟨(w.heap.size + 1), 0, none⟩), .int .i64 (k : Int), .pointer (some ⟨(UA.heap.size), 5, none⟩), .slice (some ⟨bt, ot, none⟩) L.length rc, .int .i64 (L.length : Int), .bool false, .bool false, .bool false, .pointer (some ⟨(UA.heap.size), 5, none⟩), .slice (some ⟨bt, ot, none⟩) L.length rc, .pointer (some ⟨(w.heap.size + 1), 0, none⟩), .int .i64 (k : Int), .pointer (some ⟨bt, ot + k, none⟩), .slice ta d.length tc, .pointer (some ⟨(w.heap.size + 1), 1, none⟩), .slice da d.length dc, .bool true, .bool false, .bool false] := ⟨_, rfl⟩
  have E0 := Lib.hid (show val.getD 0 undef = .pointer (some ⟨(UA.heap.size), 0, none⟩) by rw [hval]; rfl)
  have E1 := Lib.hid (show val.getD 1 undef = .agg #[.int .i64 m.v, .int .i64 m.c, .int .i64 m.s, .int .i64 m.r, .int .i64 m.t] by rw [hval]; rfl)
  have E2 := Lib.hid (show val.getD 2 undef = .pointer (some ⟨(w.heap.size), 0, none⟩) by rw [hval]; rfl)
  have E3 := Lib.hid (show val.getD 3 undef = .agg #[.int .i64 m.v, .int .i64 m.c, .int .i64 m.s, .int .i64 m.r, .int .i64 m.t] by rw [hval]; rfl)
  have E4 := Lib.hid (show val.getD 4 undef = .bool false by rw [hval]; rfl)
  have E5 := Lib.hid (show val.getD 5 undef = .bool false by rw [hval]; rfl)
  have E6 := Lib.hid (show val.getD 6 undef = .pointer (some ⟨(UA.heap.size), 5, none⟩) by rw [hval]; rfl)
  have E7 := Lib.hid (show val.getD 7 undef = .slice (some ⟨bt, ot, none⟩) L.length rc by rw [hval]; rfl)
  have E8 := Lib.hid (show val.getD 8 undef = .int .i64 (L.length : Int) by rw [hval]; rfl)
  have E9 := Lib.hid (show val.getD 9 undef = .pointer (some ⟨(w.heap.size), 5, none⟩) by rw [hval]; rfl)
  have E10 := Lib.hid (show val.getD 10 undef = .slice va L.length vc by rw [hval]; rfl)
  have E11 := Lib.hid (show val.getD 11 undef = .int .i64 (L.length : Int) by rw [hval]; rfl)
  have E12 := Lib.hid (show val.getD 12 undef = .bool false by rw [hval]; rfl)
  have E13 := Lib.hid (show val.getD 13 undef = .bool false by rw [hval]; rfl)
  have E14 := Lib.hid (show val.getD 14 undef = .bool false by rw [hval]; rfl)
  have E15 := Lib.hid (show val.getD 15 undef = .pointer (some ⟨(w.heap.size + 1), 0, none⟩) by rw [hval]; rfl)
  have E16 := Lib.hid (show val.getD 16 undef = .int .i64 (k : Int) by rw [hval]; rfl)
  have E17 := Lib.hid (show val.getD 17 undef = .bool false by rw [hval]; rfl)
  have E18 := Lib.hid (show val.getD 18 undef = .bool false by rw [hval]; rfl)
  have E19 := Lib.hid (show val.getD 19 undef = .bool false by rw [hval]; rfl)
  have E20 := Lib.hid (show val.getD 20 undef = .pointer (some ⟨(w.heap.size + 1), 0, none⟩) by rw [hval]; rfl)
  have E21 := Lib.hid (show val.getD 21 undef = .int .i64 (k : Int) by rw [hval]; rfl)
  have E22 := Lib.hid (show val.getD 22 undef = .pointer (some ⟨(UA.heap.size), 5, none⟩) by rw [hval]; rfl)
  have E23 := Lib.hid (show val.getD 23 undef = .slice (some ⟨bt, ot, none⟩) L.length rc by rw [hval]; rfl)
  have E24 := Lib.hid (show val.getD 24 undef = .int .i64 (L.length : Int) by rw [hval]; rfl)
  have E25 := Lib.hid (show val.getD 25 undef = .bool false by rw [hval]; rfl)
  have E26 := Lib.hid (show val.getD 26 undef = .bool false by rw [hval]; rfl)
  have E27 := Lib.hid (show val.getD 27 undef = .bool false by rw [hval]; rfl)
  have E28 := Lib.hid (show val.getD 28 undef = .pointer (some ⟨(UA.heap.size), 5, none⟩) by rw [hval]; rfl)
  have E29 := Lib.hid (show val.getD 29 undef = .slice (some ⟨bt, ot, none⟩) L.length rc by rw [hval]; rfl)
  have E30 := Lib.hid (show val.getD 30 undef = .pointer (some ⟨(w.heap.size + 1), 0, none⟩) by rw [hval]; rfl)
  have E31 := Lib.hid (show val.getD 31 undef = .int .i64 (k : Int) by rw [hval]; rfl)
  have E32 := Lib.hid (show val.getD 32 undef = .pointer (some ⟨bt, ot + k, none⟩) by rw [hval]; rfl)
  have E33 := Lib.hid (show val.getD 33 undef = .slice ta d.length tc by rw [hval]; rfl)
  have E34 := Lib.hid (show val.getD 34 undef = .pointer (some ⟨(w.heap.size + 1), 1, none⟩) by rw [hval]; rfl)
  have E35 := Lib.hid (show val.getD 35 undef = .slice da d.length dc by rw [hval]; rfl)
  have E36 := Lib.hid (show val.getD 36 undef = .bool true by rw [hval]; rfl)
  have E37 := Lib.hid (show val.getD 37 undef = .bool false by rw [hval]; rfl)
  have E38 := Lib.hid (show val.getD 38 undef = .bool false by rw [hval]; rfl)
  clear hval
  obtain ⟨G, hG0⟩ : ∃ G : Nat → Value → World → Prop, G = (fun i v w => (v = val.getD i undef)) := ⟨_, rfl⟩
  have HG := Lib.hid hG0
  clear hG0
  refine region_inv (RS lit U7 G) (by kernel_rfl) (by decide +kernel) ?_ ?_ ?_
  · exact ⟨fun i => ([undef, undef, undef, undef, undef, undef, undef, undef, undef, undef, undef, undef, undef, undef, undef, undef, undef, undef, undef, undef, undef, undef, undef, undef, undef, undef, undef, undef, undef, undef, undef, undef, undef, undef, undef, undef, undef, undef, undef] : List Value).getD i undef, (by rw [HLIT.out]; rfl), below_drew _ _, fun i h => by cases h⟩
  · refine ⟨?_, ?_, ?_, ?_, ?_, ?_, ?_, ?_, ?_, ?_, ?_, ?_, ?_, ?_, ?_, ?_, ?_, ?_, ?_, ?_, ?_, ?_, ?_, ?_, ?_, ?_, ?_, ?_, ?_, ?_, ?_, ?_, ?_, ?_, ?_, ?_, ?_, ?_, ?_, trivial⟩
    · intro bf ac wv hfb haf hJ K' hK
      obtain ⟨vs, rfl, hM, j4⟩ := hJ
      replace hK := Lib.hid hK
      replace hM := Lib.hid hM
      rw [HG.out] at j4
      replace j4 := Lib.hid j4
      clear haf hfb
      rw [HLIT.out]
      go_simp
      exact hK.out _ _ (RS.next (wv := wv) (vs := vs) 0 (x := .pointer (some ⟨(UA.heap.size), 0, none⟩)) (by rw [HLIT.out]; rfl) (by rw [HG.out]; exact j4.out) hM.out (by rw [HG.out]; exact fun _ _ h => h) (by rw [HG.out]; exact E0.out.symm))
    · intro bf ac wv hfb haf hJ K' hK
      obtain ⟨vs, rfl, hM, j4⟩ := hJ
      replace hK := Lib.hid hK
      replace hM := Lib.hid hM
      rw [HG.out] at j4
      simp [Region.binds] at haf
      have e0 := ((j4 0 (by simp [haf]))).trans E0.out
      replace j4 := Lib.hid j4
      clear haf hfb
      have xt0 := (H41.out.step hM.out).c 0 rfl
      have xt1 := (H41.out.step hM.out).c 1 rfl
      have xt2 := (H41.out.step hM.out).c 2 rfl
      have xt3 := (H41.out.step hM.out).c 3 rfl
      have xt4 := (H41.out.step hM.out).c 4 rfl
      have xzt := (H41.out.step hM.out).2.2
      rw [HLIT.out]
      go_simp
      exact hK.out _ _ (RS.next (wv := wv) (vs := vs) 1 (x := .agg #[.int .i64 m.v, .int .i64 m.c, .int .i64 m.s, .int .i64 m.r, .int .i64 m.t]) (by rw [HLIT.out]; simp only [upv, e0, Nat.reduceBEq, cond_true, cond_false]) (by rw [HG.out]; exact j4.out) hM.out (by rw [HG.out]; exact fun _ _ h => h) (by rw [HG.out]; exact E1.out.symm))
    · intro bf ac wv hfb haf hJ K' hK
      obtain ⟨vs, rfl, hM, j4⟩ := hJ
      replace hK := Lib.hid hK
      replace hM := Lib.hid hM
      rw [HG.out] at j4
      replace j4 := Lib.hid j4
      clear haf hfb
      rw [HLIT.out]
      go_simp
      exact hK.out _ _ (RS.next (wv := wv) (vs := vs) 2 (x := .pointer (some ⟨(w.heap.size), 0, none⟩)) (by rw [HLIT.out]; rfl) (by rw [HG.out]; exact j4.out) hM.out (by rw [HG.out]; exact fun _ _ h => h) (by rw [HG.out]; exact E2.out.symm))
    · intro bf ac wv hfb haf hJ K' hK
      obtain ⟨vs, rfl, hM, j4⟩ := hJ
      replace hK := Lib.hid hK
      replace hM := Lib.hid hM
      rw [HG.out] at j4
      simp [Region.binds] at haf
      have e2 := ((j4 2 (by simp [haf]))).trans E2.out
      replace j4 := Lib.hid j4
      clear haf hfb
      have xs0 := (H45.out.step hM.out).c 0 rfl
      have xs1 := (H45.out.step hM.out).c 1 rfl
      have xs2 := (H45.out.step hM.out).c 2 rfl
      have xs3 := (H45.out.step hM.out).c 3 rfl
      have xs4 := (H45.out.step hM.out).c 4 rfl
      have xzs := (H45.out.step hM.out).2.2
      rw [HLIT.out]
      go_simp
      exact hK.out _ _ (RS.next (wv := wv) (vs := vs) 3 (x := .agg #[.int .i64 m.v, .int .i64 m.c, .int .i64 m.s, .int .i64 m.r, .int .i64 m.t]) (by rw [HLIT.out]; simp only [upv, e2, Nat.reduceBEq, cond_true, cond_false]) (by rw [HG.out]; exact j4.out) hM.out (by rw [HG.out]; exact fun _ _ h => h) (by rw [HG.out]; exact E3.out.symm))
    · intro bf ac wv hfb haf hJ K' hK
      obtain ⟨vs, rfl, hM, j4⟩ := hJ
      replace hK := Lib.hid hK
      replace hM := Lib.hid hM
      rw [HG.out] at j4
      simp [Region.binds] at haf
      have e1 := ((j4 1 (by simp [haf]))).trans E1.out
      have e3 := ((j4 3 (by simp [haf]))).trans E3.out
      replace j4 := Lib.hid j4
      clear haf hfb
      have qn := neq_self m
      rw [HLIT.out]
      go_simp
      exact hK.out _ _ (RS.next (wv := wv) (vs := vs) 4 (x := .bool false) (by rw [HLIT.out]; simp only [upv, e1, e3, Nat.reduceBEq, cond_true, cond_false]) (by rw [HG.out]; exact j4.out) hM.out (by rw [HG.out]; exact fun _ _ h => h) (by rw [HG.out]; exact E4.out.symm))
    · intro bf ac wv hfb haf hJ K' hK
      obtain ⟨vs, rfl, hM, j4⟩ := hJ
      replace hK := Lib.hid hK
      replace hM := Lib.hid hM
      rw [HG.out] at j4
      simp [Region.binds] at haf
      have e4 := ((j4 4 (by simp [haf]))).trans E4.out
      replace j4 := Lib.hid j4
      clear haf hfb
      rw [HLIT.out]
      go_simp
      exact hK.out _ _ (RS.next (wv := wv) (vs := vs) 5 (x := .bool false) (by rw [HLIT.out]; simp only [upv, e4, Nat.reduceBEq, cond_true, cond_false]) (by rw [HG.out]; exact j4.out) hM.out (by rw [HG.out]; exact fun _ _ h => h) (by rw [HG.out]; exact E5.out.symm))
    · intro bf ac wv hfb haf hJ K' hK
      obtain ⟨vs, rfl, hM, j4⟩ := hJ
      replace hK := Lib.hid hK
      replace hM := Lib.hid hM
      rw [HG.out] at j4
      simp [Region.binds] at haf
      have e5 := ((j4 5 (by simp [haf]))).trans E5.out
      replace j4 := Lib.hid j4
      clear haf hfb
      rw [HLIT.out]
      go_simp
      exact hK.out _ _ (RS.next (wv := wv) (vs := vs) 6 (x := .pointer (some ⟨(UA.heap.size), 5, none⟩)) (by rw [HLIT.out]; simp only [upv, e5, Nat.reduceBEq, cond_true, cond_false]) (by rw [HG.out]; exact j4.out) hM.out (by rw [HG.out]; exact fun _ _ h => h) (by rw [HG.out]; exact E6.out.symm))
    · intro bf ac wv hfb haf hJ K' hK
      obtain ⟨vs, rfl, hM, j4⟩ := hJ
      replace hK := Lib.hid hK
      replace hM := Lib.hid hM
      rw [HG.out] at j4
      simp [Region.binds] at haf
      have e5 := ((j4 5 (by simp [haf]))).trans E5.out
      have e6 := ((j4 6 (by simp [haf]))).trans E6.out
      replace j4 := Lib.hid j4
      clear haf hfb
      have xt5 := (H41.out.step hM.out).c 5 rfl
      have xzt := (H41.out.step hM.out).2.2
      rw [HLIT.out]
      go_simp
      exact hK.out _ _ (RS.next (wv := wv) (vs := vs) 7 (x := .slice (some ⟨bt, ot, none⟩) L.length rc) (by rw [HLIT.out]; simp only [upv, e5, e6, Nat.reduceBEq, cond_true, cond_false]) (by rw [HG.out]; exact j4.out) hM.out (by rw [HG.out]; exact fun _ _ h => h) (by rw [HG.out]; exact E7.out.symm))
    · intro bf ac wv hfb haf hJ K' hK
      obtain ⟨vs, rfl, hM, j4⟩ := hJ
      replace hK := Lib.hid hK
      replace hM := Lib.hid hM
      rw [HG.out] at j4
      simp [Region.binds] at haf
      have e5 := ((j4 5 (by simp [haf]))).trans E5.out
      have e7 := ((j4 7 (by simp [haf]))).trans E7.out
      replace j4 := Lib.hid j4
      clear haf hfb
      rw [HLIT.out]
      go_simp
      exact hK.out _ _ (RS.next (wv := wv) (vs := vs) 8 (x := .int .i64 (L.length : Int)) (by rw [HLIT.out]; simp only [upv, e5, e7, Nat.reduceBEq, cond_true, cond_false]) (by rw [HG.out]; exact j4.out) hM.out (by rw [HG.out]; exact fun _ _ h => h) (by rw [HG.out]; exact E8.out.symm))
    · intro bf ac wv hfb haf hJ K' hK
      obtain ⟨vs, rfl, hM, j4⟩ := hJ
      replace hK := Lib.hid hK
      replace hM := Lib.hid hM
      rw [HG.out] at j4
      simp [Region.binds] at haf
      have e5 := ((j4 5 (by simp [haf]))).trans E5.out
      replace j4 := Lib.hid j4
      clear haf hfb
      rw [HLIT.out]
      go_simp
      exact hK.out _ _ (RS.next (wv := wv) (vs := vs) 9 (x := .pointer (some ⟨(w.heap.size), 5, none⟩)) (by rw [HLIT.out]; simp only [upv, e5, Nat.reduceBEq, cond_true, cond_false]) (by rw [HG.out]; exact j4.out) hM.out (by rw [HG.out]; exact fun _ _ h => h) (by rw [HG.out]; exact E9.out.symm))
    · intro bf ac wv hfb haf hJ K' hK
      obtain ⟨vs, rfl, hM, j4⟩ := hJ
      replace hK := Lib.hid hK
      replace hM := Lib.hid hM
      rw [HG.out] at j4
      simp [Region.binds] at haf
      have e5 := ((j4 5 (by simp [haf]))).trans E5.out
      have e9 := ((j4 9 (by simp [haf]))).trans E9.out
      replace j4 := Lib.hid j4
      clear haf hfb
      have xs5 := (H45.out.step hM.out).c 5 rfl
      have xzs := (H45.out.step hM.out).2.2
      rw [HLIT.out]
      go_simp
      exact hK.out _ _ (RS.next (wv := wv) (vs := vs) 10 (x := .slice va L.length vc) (by rw [HLIT.out]; simp only [upv, e5, e9, Nat.reduceBEq, cond_true, cond_false]) (by rw [HG.out]; exact j4.out) hM.out (by rw [HG.out]; exact fun _ _ h => h) (by rw [HG.out]; exact E10.out.symm))
    · intro bf ac wv hfb haf hJ K' hK
      obtain ⟨vs, rfl, hM, j4⟩ := hJ
      replace hK := Lib.hid hK
      replace hM := Lib.hid hM
      rw [HG.out] at j4
      simp [Region.binds] at haf
      have e5 := ((j4 5 (by simp [haf]))).trans E5.out
      have e10 := ((j4 10 (by simp [haf]))).trans E10.out
      replace j4 := Lib.hid j4
      clear haf hfb
      rw [HLIT.out]
      go_simp
      exact hK.out _ _ (RS.next (wv := wv) (vs := vs) 11 (x := .int .i64 (L.length : Int)) (by rw [HLIT.out]; simp only [upv, e5, e10, Nat.reduceBEq, cond_true, cond_false]) (by rw [HG.out]; exact j4.out) hM.out (by rw [HG.out]; exact fun _ _ h => h) (by rw [HG.out]; exact E11.out.symm))
    · intro bf ac wv hfb haf hJ K' hK
      obtain ⟨vs, rfl, hM, j4⟩ := hJ
      replace hK := Lib.hid hK
      replace hM := Lib.hid hM
      rw [HG.out] at j4
      simp [Region.binds] at haf
      have e5 := ((j4 5 (by simp [haf]))).trans E5.out
      have e8 := ((j4 8 (by simp [haf]))).trans E8.out
      have e11 := ((j4 11 (by simp [haf]))).trans E11.out
      replace j4 := Lib.hid j4
      clear haf hfb
      rw [HLIT.out]
      go_simp
      exact hK.out _ _ (RS.next (wv := wv) (vs := vs) 12 (x := .bool false) (by rw [HLIT.out]; simp only [upv, e5, e8, e11, Nat.reduceBEq, cond_true, cond_false]) (by rw [HG.out]; exact j4.out) hM.out (by rw [HG.out]; exact fun _ _ h => h) (by rw [HG.out]; exact E12.out.symm))
    · intro bf ac wv hfb haf hJ K' hK
      obtain ⟨vs, rfl, hM, j4⟩ := hJ
      replace hK := Lib.hid hK
      replace hM := Lib.hid hM
      rw [HG.out] at j4
      simp [Region.binds] at haf
      have e5 := ((j4 5 (by simp [haf]))).trans E5.out
      have e12 := ((j4 12 (by simp [haf]))).trans E12.out
      replace j4 := Lib.hid j4
      clear haf hfb
      rw [HLIT.out]
      go_simp
      exact hK.out _ _ (RS.next (wv := wv) (vs := vs) 13 (x := .bool false) (by rw [HLIT.out]; simp only [upv, e5, e12, Nat.reduceBEq, cond_true, cond_false]) (by rw [HG.out]; exact j4.out) hM.out (by rw [HG.out]; exact fun _ _ h => h) (by rw [HG.out]; exact E13.out.symm))
    · intro bf ac wv hfb haf hJ K' hK
      obtain ⟨vs, rfl, hM, j4⟩ := hJ
      replace hK := Lib.hid hK
      replace hM := Lib.hid hM
      rw [HG.out] at j4
      simp [Region.binds] at haf
      have e13 := ((j4 13 (by simp [haf]))).trans E13.out
      replace j4 := Lib.hid j4
      clear haf hfb
      rw [HLIT.out]
      go_simp
      exact hK.out _ _ (RS.next (wv := wv) (vs := vs) 14 (x := .bool false) (by rw [HLIT.out]; simp only [upv, e13, Nat.reduceBEq, cond_true, cond_false]) (by rw [HG.out]; exact j4.out) hM.out (by rw [HG.out]; exact fun _ _ h => h) (by rw [HG.out]; exact E14.out.symm))
    · intro bf ac wv hfb haf hJ K' hK
      obtain ⟨vs, rfl, hM, j4⟩ := hJ
      replace hK := Lib.hid hK
      replace hM := Lib.hid hM
      rw [HG.out] at j4
      simp [Region.binds] at haf
      have e14 := ((j4 14 (by simp [haf]))).trans E14.out
      replace j4 := Lib.hid j4
      clear haf hfb
      rw [HLIT.out]
      go_simp
      exact hK.out _ _ (RS.next (wv := wv) (vs := vs) 15 (x := .pointer (some ⟨(w.heap.size + 1), 0, none⟩)) (by rw [HLIT.out]; simp only [upv, e14, Nat.reduceBEq, cond_true, cond_false]) (by rw [HG.out]; exact j4.out) hM.out (by rw [HG.out]; exact fun _ _ h => h) (by rw [HG.out]; exact E15.out.symm))
    · intro bf ac wv hfb haf hJ K' hK
      obtain ⟨vs, rfl, hM, j4⟩ := hJ
      replace hK := Lib.hid hK
      replace hM := Lib.hid hM
      rw [HG.out] at j4
      simp [Region.binds] at haf
      have e14 := ((j4 14 (by simp [haf]))).trans E14.out
      have e15 := ((j4 15 (by simp [haf]))).trans E15.out
      replace j4 := Lib.hid j4
      clear haf hfb
      have xp0 := (H46.out.step hM.out).c 0 rfl
      have xzp := (H46.out.step hM.out).2.2
      rw [HLIT.out]
      go_simp
      exact hK.out _ _ (RS.next (wv := wv) (vs := vs) 16 (x := .int .i64 (k : Int)) (by rw [HLIT.out]; simp only [upv, e14, e15, Nat.reduceBEq, cond_true, cond_false]) (by rw [HG.out]; exact j4.out) hM.out (by rw [HG.out]; exact fun _ _ h => h) (by rw [HG.out]; exact E16.out.symm))
    · intro bf ac wv hfb haf hJ K' hK
      obtain ⟨vs, rfl, hM, j4⟩ := hJ
      replace hK := Lib.hid hK
      replace hM := Lib.hid hM
      rw [HG.out] at j4
      simp [Region.binds] at haf
      have e14 := ((j4 14 (by simp [haf]))).trans E14.out
      have e16 := ((j4 16 (by simp [haf]))).trans E16.out
      replace j4 := Lib.hid j4
      clear haf hfb
      have f1 : decide ((k : Int) < 0) = false := decide_eq_false (by omega)
      have f2 : ¬ (k : Int) < 0 := by omega
      rw [HLIT.out]
      go_simp
      exact hK.out _ _ (RS.next (wv := wv) (vs := vs) 17 (x := .bool false) (by rw [HLIT.out]; simp only [upv, e14, e16, Nat.reduceBEq, cond_true, cond_false]) (by rw [HG.out]; exact j4.out) hM.out (by rw [HG.out]; exact fun _ _ h => h) (by rw [HG.out]; exact E17.out.symm))
    · intro bf ac wv hfb haf hJ K' hK
      obtain ⟨vs, rfl, hM, j4⟩ := hJ
      replace hK := Lib.hid hK
      replace hM := Lib.hid hM
      rw [HG.out] at j4
      simp [Region.binds] at haf
      have e14 := ((j4 14 (by simp [haf]))).trans E14.out
      have e17 := ((j4 17 (by simp [haf]))).trans E17.out
      replace j4 := Lib.hid j4
      clear haf hfb
      rw [HLIT.out]
      go_simp
      exact hK.out _ _ (RS.next (wv := wv) (vs := vs) 18 (x := .bool false) (by rw [HLIT.out]; simp only [upv, e14, e17, Nat.reduceBEq, cond_true, cond_false]) (by rw [HG.out]; exact j4.out) hM.out (by rw [HG.out]; exact fun _ _ h => h) (by rw [HG.out]; exact E18.out.symm))
    · intro bf ac wv hfb haf hJ K' hK
      obtain ⟨vs, rfl, hM, j4⟩ := hJ
      replace hK := Lib.hid hK
      replace hM := Lib.hid hM
      rw [HG.out] at j4
      simp [Region.binds] at haf
      have e18 := ((j4 18 (by simp [haf]))).trans E18.out
      replace j4 := Lib.hid j4
      clear haf hfb
      rw [HLIT.out]
      go_simp
      exact hK.out _ _ (RS.next (wv := wv) (vs := vs) 19 (x := .bool false) (by rw [HLIT.out]; simp only [upv, e18, Nat.reduceBEq, cond_true, cond_false]) (by rw [HG.out]; exact j4.out) hM.out (by rw [HG.out]; exact fun _ _ h => h) (by rw [HG.out]; exact E19.out.symm))
    · intro bf ac wv hfb haf hJ K' hK
      obtain ⟨vs, rfl, hM, j4⟩ := hJ
      replace hK := Lib.hid hK
      replace hM := Lib.hid hM
      rw [HG.out] at j4
      simp [Region.binds] at haf
      have e19 := ((j4 19 (by simp [haf]))).trans E19.out
      replace j4 := Lib.hid j4
      clear haf hfb
      rw [HLIT.out]
      go_simp
      exact hK.out _ _ (RS.next (wv := wv) (vs := vs) 20 (x := .pointer (some ⟨(w.heap.size + 1), 0, none⟩)) (by rw [HLIT.out]; simp only [upv, e19, Nat.reduceBEq, cond_true, cond_false]) (by rw [HG.out]; exact j4.out) hM.out (by rw [HG.out]; exact fun _ _ h => h) (by rw [HG.out]; exact E20.out.symm))
    · intro bf ac wv hfb haf hJ K' hK
      obtain ⟨vs, rfl, hM, j4⟩ := hJ
      replace hK := Lib.hid hK
      replace hM := Lib.hid hM
      rw [HG.out] at j4
      simp [Region.binds] at haf
      have e19 := ((j4 19 (by simp [haf]))).trans E19.out
      have e20 := ((j4 20 (by simp [haf]))).trans E20.out
      replace j4 := Lib.hid j4
      clear haf hfb
      have xp0 := (H46.out.step hM.out).c 0 rfl
      have xzp := (H46.out.step hM.out).2.2
      rw [HLIT.out]
      go_simp
      exact hK.out _ _ (RS.next (wv := wv) (vs := vs) 21 (x := .int .i64 (k : Int)) (by rw [HLIT.out]; simp only [upv, e19, e20, Nat.reduceBEq, cond_true, cond_false]) (by rw [HG.out]; exact j4.out) hM.out (by rw [HG.out]; exact fun _ _ h => h) (by rw [HG.out]; exact E21.out.symm))
    · intro bf ac wv hfb haf hJ K' hK
      obtain ⟨vs, rfl, hM, j4⟩ := hJ
      replace hK := Lib.hid hK
      replace hM := Lib.hid hM
      rw [HG.out] at j4
      simp [Region.binds] at haf
      have e19 := ((j4 19 (by simp [haf]))).trans E19.out
      replace j4 := Lib.hid j4
      clear haf hfb
      rw [HLIT.out]
      go_simp
      exact hK.out _ _ (RS.next (wv := wv) (vs := vs) 22 (x := .pointer (some ⟨(UA.heap.size), 5, none⟩)) (by rw [HLIT.out]; simp only [upv, e19, Nat.reduceBEq, cond_true, cond_false]) (by rw [HG.out]; exact j4.out) hM.out (by rw [HG.out]; exact fun _ _ h => h) (by rw [HG.out]; exact E22.out.symm))
    · intro bf ac wv hfb haf hJ K' hK
      obtain ⟨vs, rfl, hM, j4⟩ := hJ
      replace hK := Lib.hid hK
      replace hM := Lib.hid hM
      rw [HG.out] at j4
      simp [Region.binds] at haf
      have e19 := ((j4 19 (by simp [haf]))).trans E19.out
      have e22 := ((j4 22 (by simp [haf]))).trans E22.out
      replace j4 := Lib.hid j4
      clear haf hfb
      have xt5 := (H41.out.step hM.out).c 5 rfl
      have xzt := (H41.out.step hM.out).2.2
      rw [HLIT.out]
      go_simp
      exact hK.out _ _ (RS.next (wv := wv) (vs := vs) 23 (x := .slice (some ⟨bt, ot, none⟩) L.length rc) (by rw [HLIT.out]; simp only [upv, e19, e22, Nat.reduceBEq, cond_true, cond_false]) (by rw [HG.out]; exact j4.out) hM.out (by rw [HG.out]; exact fun _ _ h => h) (by rw [HG.out]; exact E23.out.symm))
    · intro bf ac wv hfb haf hJ K' hK
      obtain ⟨vs, rfl, hM, j4⟩ := hJ
      replace hK := Lib.hid hK
      replace hM := Lib.hid hM
      rw [HG.out] at j4
      simp [Region.binds] at haf
      have e19 := ((j4 19 (by simp [haf]))).trans E19.out
      have e23 := ((j4 23 (by simp [haf]))).trans E23.out
      replace j4 := Lib.hid j4
      clear haf hfb
      rw [HLIT.out]
      go_simp
      exact hK.out _ _ (RS.next (wv := wv) (vs := vs) 24 (x := .int .i64 (L.length : Int)) (by rw [HLIT.out]; simp only [upv, e19, e23, Nat.reduceBEq, cond_true, cond_false]) (by rw [HG.out]; exact j4.out) hM.out (by rw [HG.out]; exact fun _ _ h => h) (by rw [HG.out]; exact E24.out.symm))
    · intro bf ac wv hfb haf hJ K' hK
      obtain ⟨vs, rfl, hM, j4⟩ := hJ
      replace hK := Lib.hid hK
      replace hM := Lib.hid hM
      rw [HG.out] at j4
      simp [Region.binds] at haf
      have e19 := ((j4 19 (by simp [haf]))).trans E19.out
      have e21 := ((j4 21 (by simp [haf]))).trans E21.out
      have e24 := ((j4 24 (by simp [haf]))).trans E24.out
      replace j4 := Lib.hid j4
      clear haf hfb
      have f1 : decide ((k : Int) ≥ (L.length : Int)) = false := decide_eq_false (by have := HKL.out; omega)
      have f2 : decide ((L.length : Int) ≤ (k : Int)) = false := f1
      have f3 : ¬ (L.length : Int) ≤ (k : Int) := by have := HKL.out; omega
      have f4 : ¬ L.length ≤ k := by have := HKL.out; omega
      have f5 : decide (L.length ≤ k) = false := decide_eq_false f4
      rw [HLIT.out]
      go_simp
      exact hK.out _ _ (RS.next (wv := wv) (vs := vs) 25 (x := .bool false) (by rw [HLIT.out]; simp only [upv, e19, e21, e24, Nat.reduceBEq, cond_true, cond_false]) (by rw [HG.out]; exact j4.out) hM.out (by rw [HG.out]; exact fun _ _ h => h) (by rw [HG.out]; exact E25.out.symm))
    · intro bf ac wv hfb haf hJ K' hK
      obtain ⟨vs, rfl, hM, j4⟩ := hJ
      replace hK := Lib.hid hK
      replace hM := Lib.hid hM
      rw [HG.out] at j4
      simp [Region.binds] at haf
      have e19 := ((j4 19 (by simp [haf]))).trans E19.out
      have e25 := ((j4 25 (by simp [haf]))).trans E25.out
      replace j4 := Lib.hid j4
      clear haf hfb
      rw [HLIT.out]
      go_simp
      exact hK.out _ _ (RS.next (wv := wv) (vs := vs) 26 (x := .bool false) (by rw [HLIT.out]; simp only [upv, e19, e25, Nat.reduceBEq, cond_true, cond_false]) (by rw [HG.out]; exact j4.out) hM.out (by rw [HG.out]; exact fun _ _ h => h) (by rw [HG.out]; exact E26.out.symm))
    · intro bf ac wv hfb haf hJ K' hK
      obtain ⟨vs, rfl, hM, j4⟩ := hJ
      replace hK := Lib.hid hK
      replace hM := Lib.hid hM
      rw [HG.out] at j4
      simp [Region.binds] at haf
      have e26 := ((j4 26 (by simp [haf]))).trans E26.out
      replace j4 := Lib.hid j4
      clear haf hfb
      rw [HLIT.out]
      go_simp
      exact hK.out _ _ (RS.next (wv := wv) (vs := vs) 27 (x := .bool false) (by rw [HLIT.out]; simp only [upv, e26, Nat.reduceBEq, cond_true, cond_false]) (by rw [HG.out]; exact j4.out) hM.out (by rw [HG.out]; exact fun _ _ h => h) (by rw [HG.out]; exact E27.out.symm))
    · intro bf ac wv hfb haf hJ K' hK
      obtain ⟨vs, rfl, hM, j4⟩ := hJ
      replace hK := Lib.hid hK
      replace hM := Lib.hid hM
      rw [HG.out] at j4
      simp [Region.binds] at haf
      have e27 := ((j4 27 (by simp [haf]))).trans E27.out
      replace j4 := Lib.hid j4
      clear haf hfb
      rw [HLIT.out]
      go_simp
      exact hK.out _ _ (RS.next (wv := wv) (vs := vs) 28 (x := .pointer (some ⟨(UA.heap.size), 5, none⟩)) (by rw [HLIT.out]; simp only [upv, e27, Nat.reduceBEq, cond_true, cond_false]) (by rw [HG.out]; exact j4.out) hM.out (by rw [HG.out]; exact fun _ _ h => h) (by rw [HG.out]; exact E28.out.symm))
    · intro bf ac wv hfb haf hJ K' hK
      obtain ⟨vs, rfl, hM, j4⟩ := hJ
      replace hK := Lib.hid hK
      replace hM := Lib.hid hM
      rw [HG.out] at j4
      simp [Region.binds] at haf
      have e27 := ((j4 27 (by simp [haf]))).trans E27.out
      have e28 := ((j4 28 (by simp [haf]))).trans E28.out
      replace j4 := Lib.hid j4
      clear haf hfb
      have xt5 := (H41.out.step hM.out).c 5 rfl
      have xzt := (H41.out.step hM.out).2.2
      rw [HLIT.out]
      go_simp
      exact hK.out _ _ (RS.next (wv := wv) (vs := vs) 29 (x := .slice (some ⟨bt, ot, none⟩) L.length rc) (by rw [HLIT.out]; simp only [upv, e27, e28, Nat.reduceBEq, cond_true, cond_false]) (by rw [HG.out]; exact j4.out) hM.out (by rw [HG.out]; exact fun _ _ h => h) (by rw [HG.out]; exact E29.out.symm))
    · intro bf ac wv hfb haf hJ K' hK
      obtain ⟨vs, rfl, hM, j4⟩ := hJ
      replace hK := Lib.hid hK
      replace hM := Lib.hid hM
      rw [HG.out] at j4
      simp [Region.binds] at haf
      have e27 := ((j4 27 (by simp [haf]))).trans E27.out
      replace j4 := Lib.hid j4
      clear haf hfb
      rw [HLIT.out]
      go_simp
      exact hK.out _ _ (RS.next (wv := wv) (vs := vs) 30 (x := .pointer (some ⟨(w.heap.size + 1), 0, none⟩)) (by rw [HLIT.out]; simp only [upv, e27, Nat.reduceBEq, cond_true, cond_false]) (by rw [HG.out]; exact j4.out) hM.out (by rw [HG.out]; exact fun _ _ h => h) (by rw [HG.out]; exact E30.out.symm))
    · intro bf ac wv hfb haf hJ K' hK
      obtain ⟨vs, rfl, hM, j4⟩ := hJ
      replace hK := Lib.hid hK
      replace hM := Lib.hid hM
      rw [HG.out] at j4
      simp [Region.binds] at haf
      have e27 := ((j4 27 (by simp [haf]))).trans E27.out
      have e30 := ((j4 30 (by simp [haf]))).trans E30.out
      replace j4 := Lib.hid j4
      clear haf hfb
      have xp0 := (H46.out.step hM.out).c 0 rfl
      have xzp := (H46.out.step hM.out).2.2
      rw [HLIT.out]
      go_simp
      exact hK.out _ _ (RS.next (wv := wv) (vs := vs) 31 (x := .int .i64 (k : Int)) (by rw [HLIT.out]; simp only [upv, e27, e30, Nat.reduceBEq, cond_true, cond_false]) (by rw [HG.out]; exact j4.out) hM.out (by rw [HG.out]; exact fun _ _ h => h) (by rw [HG.out]; exact E31.out.symm))
    · intro bf ac wv hfb haf hJ K' hK
      obtain ⟨vs, rfl, hM, j4⟩ := hJ
      replace hK := Lib.hid hK
      replace hM := Lib.hid hM
      rw [HG.out] at j4
      simp [Region.binds] at haf
      have e27 := ((j4 27 (by simp [haf]))).trans E27.out
      have e29 := ((j4 29 (by simp [haf]))).trans E29.out
      have e31 := ((j4 31 (by simp [haf]))).trans E31.out
      replace j4 := Lib.hid j4
      clear haf hfb
      have f1 : (k : Int) < (L.length : Int) := by have := HKL.out; omega
      have f2 : (k : Int).toNat = k := Int.toNat_natCast k
      have f3 := HKL.out
      have f4 : (0 : Int) ≤ (k : Int) := by omega
      rw [HLIT.out]
      go_simp
      exact hK.out _ _ (RS.next (wv := wv) (vs := vs) 32 (x := .pointer (some ⟨bt, ot + k, none⟩)) (by rw [HLIT.out]; simp only [upv, e27, e29, e31, Nat.reduceBEq, cond_true, cond_false]) (by rw [HG.out]; exact j4.out) hM.out (by rw [HG.out]; exact fun _ _ h => h) (by rw [HG.out]; exact E32.out.symm))
    · intro bf ac wv hfb haf hJ K' hK
      obtain ⟨vs, rfl, hM, j4⟩ := hJ
      replace hK := Lib.hid hK
      replace hM := Lib.hid hM
      rw [HG.out] at j4
      simp [Region.binds] at haf
      have e27 := ((j4 27 (by simp [haf]))).trans E27.out
      have e32 := ((j4 32 (by simp [haf]))).trans E32.out
      replace j4 := Lib.hid j4
      clear haf hfb
      have r0 := keep1 hM.out HTX2.out
      have rz := Nat.lt_of_lt_of_le HTZ2.out hM.out.size
      rw [HLIT.out]
      go_simp
      exact hK.out _ _ (RS.next (wv := wv) (vs := vs) 33 (x := .slice ta d.length tc) (by rw [HLIT.out]; simp only [upv, e27, e32, Nat.reduceBEq, cond_true, cond_false]) (by rw [HG.out]; exact j4.out) hM.out (by rw [HG.out]; exact fun _ _ h => h) (by rw [HG.out]; exact E33.out.symm))
    · intro bf ac wv hfb haf hJ K' hK
      obtain ⟨vs, rfl, hM, j4⟩ := hJ
      replace hK := Lib.hid hK
      replace hM := Lib.hid hM
      rw [HG.out] at j4
      simp [Region.binds] at haf
      have e27 := ((j4 27 (by simp [haf]))).trans E27.out
      replace j4 := Lib.hid j4
      clear haf hfb
      rw [HLIT.out]
      go_simp
      exact hK.out _ _ (RS.next (wv := wv) (vs := vs) 34 (x := .pointer (some ⟨(w.heap.size + 1), 1, none⟩)) (by rw [HLIT.out]; simp only [upv, e27, Nat.reduceBEq, cond_true, cond_false]) (by rw [HG.out]; exact j4.out) hM.out (by rw [HG.out]; exact fun _ _ h => h) (by rw [HG.out]; exact E34.out.symm))
    · intro bf ac wv hfb haf hJ K' hK
      obtain ⟨vs, rfl, hM, j4⟩ := hJ
      replace hK := Lib.hid hK
      replace hM := Lib.hid hM
      rw [HG.out] at j4
      simp [Region.binds] at haf
      have e27 := ((j4 27 (by simp [haf]))).trans E27.out
      have e34 := ((j4 34 (by simp [haf]))).trans E34.out
      replace j4 := Lib.hid j4
      clear haf hfb
      have xp1 := (H46.out.step hM.out).c 1 rfl
      have xzp := (H46.out.step hM.out).2.2
      rw [HLIT.out]
      go_simp
      exact hK.out _ _ (RS.next (wv := wv) (vs := vs) 35 (x := .slice da d.length dc) (by rw [HLIT.out]; simp only [upv, e27, e34, Nat.reduceBEq, cond_true, cond_false]) (by rw [HG.out]; exact j4.out) hM.out (by rw [HG.out]; exact fun _ _ h => h) (by rw [HG.out]; exact E35.out.symm))
    · intro bf ac wv hfb haf hJ K' hK
      obtain ⟨vs, rfl, hM, j4⟩ := hJ
      replace hK := Lib.hid hK
      replace hM := Lib.hid hM
      rw [HG.out] at j4
      simp [Region.binds] at haf
      have e27 := ((j4 27 (by simp [haf]))).trans E27.out
      have e33 := ((j4 33 (by simp [haf]))).trans E33.out
      have e35 := ((j4 35 (by simp [haf]))).trans E35.out
      replace j4 := Lib.hid j4
      clear haf hfb
      rw [HLIT.out]
      go_simp
      go_at_call 21
      refine (ints_bel _ _ d d wv (H48.out.step hM.out) (H43.out.step hM.out)).mono ?_
      rintro e w4 ⟨rfl, b4⟩
      rw [decide_eq_true (rfl : d = d)]
      exact hK.out _ _ (RS.next (wv := wv) (vs := vs) 36 (x := .bool true) (by rw [HLIT.out]; simp only [upv, e27, e33, e35, Nat.reduceBEq, cond_true, cond_false]) (by rw [HG.out]; exact j4.out) (keep2 b4 hM.out) (by rw [HG.out]; exact fun _ _ h => h) (by rw [HG.out]; exact E36.out.symm))
    · intro bf ac wv hfb haf hJ K' hK
      obtain ⟨vs, rfl, hM, j4⟩ := hJ
      replace hK := Lib.hid hK
      replace hM := Lib.hid hM
      rw [HG.out] at j4
      simp [Region.binds] at haf
      have e27 := ((j4 27 (by simp [haf]))).trans E27.out
      have e36 := ((j4 36 (by simp [haf]))).trans E36.out
      replace j4 := Lib.hid j4
      clear haf hfb
      rw [HLIT.out]
      go_simp
      exact hK.out _ _ (RS.next (wv := wv) (vs := vs) 37 (x := .bool false) (by rw [HLIT.out]; simp only [upv, e27, e36, Nat.reduceBEq, cond_true, cond_false]) (by rw [HG.out]; exact j4.out) hM.out (by rw [HG.out]; exact fun _ _ h => h) (by rw [HG.out]; exact E37.out.symm))
    · intro bf ac wv hfb haf hJ K' hK
      obtain ⟨vs, rfl, hM, j4⟩ := hJ
      replace hK := Lib.hid hK
      replace hM := Lib.hid hM
      rw [HG.out] at j4
      simp [Region.binds] at haf
      have e27 := ((j4 27 (by simp [haf]))).trans E27.out
      have e37 := ((j4 37 (by simp [haf]))).trans E37.out
      replace j4 := Lib.hid j4
      clear haf hfb
      rw [HLIT.out]
      go_simp
      exact hK.out _ _ (RS.next (wv := wv) (vs := vs) 38 (x := .bool false) (by rw [HLIT.out]; simp only [upv, e27, e37, Nat.reduceBEq, cond_true, cond_false]) (by rw [HG.out]; exact j4.out) hM.out (by rw [HG.out]; exact fun _ _ h => h) (by rw [HG.out]; exact E38.out.symm))
  · intro bf ac wv hall hJ
    obtain ⟨vs, rfl, hM, j4⟩ := hJ
    rw [HG.out] at j4
    have e38 := ((j4 38 (hall 38 (by decide)))).trans E38.out
    have HM9 := Lib.hid hM
    clear hM j4 hall
    rw [HLIT.out]
    dsimp only
    rw [e38]
    clear e38 HLIT HG
    generalize vs = us7
    clear H48
    clear H43
    clear H44
    have H50 := Lib.hid (H42.out.step HM9.out)
    clear H42
    have H51 := Lib.hid (H45.out.step HM9.out)
    clear H45
    have H52 := Lib.hid (H46.out.step HM9.out)
    clear H46
    have H53 := Lib.hid (H47.out.step HM9.out)
    clear H47
    have H54 := Lib.hid (H41.out.step HM9.out)
    clear H41
    have H55 := Lib.hid (keep2 HM9.out H49.out)
    clear H49 HM9 HTX2 HTZ2
    obtain ⟨U8, hU8⟩ : ∃ z9, wv = z9 := ⟨_, rfl⟩
    rw [hU8] at H50 H51 H52 H53 H54 H55 ⊢
    clear hU8
    have xs0 := H51.out.c 0 rfl
    have xs1 := H51.out.c 1 rfl
    have xs2 := H51.out.c 2 rfl
    have xs3 := H51.out.c 3 rfl
    have xs4 := H51.out.c 4 rfl
    have xs5 := H51.out.c 5 rfl
    have zs := H51.out.2.2
    have xp0 := H52.out.c 0 rfl
    have xp1 := H52.out.c 1 rfl
    have xp2 := H52.out.c 2 rfl
    have zp := H52.out.2.2
    go_wp2_with fail
    clear xs0 xs1 xs2 xs3 xs4 xs5 zs xp0 xp1 xp2 zp
    go_loopw [8] (fun iv wr => ∃ j : Nat, j ≤ L.length ∧ iv = .int .i64 (j : Int) ∧ Hid (Below U8.heap.size U8 wr)) (fun iv _ => L.length - (intOf iv).toNat)
    case atStart => exact ⟨0, by omega, rfl, Lib.hid (Below.refl _ _)⟩
    case round =>
      obtain ⟨j, hj, rfl, HW⟩ := hrel
      have HR_R := Lib.hid (H50.out.step HW.out)
      have HR_s := Lib.hid (H51.out.step HW.out)
      have HR_p := Lib.hid (H52.out.step HW.out)
      have HR_T := Lib.hid (H53.out.step HW.out)
      have HR_t := Lib.hid (H54.out.step HW.out)
      have HRB := Lib.hid (keep2 HW.out H55.out)
      by_cases hjl : j < L.length
      rotate_left
      · obtain rfl : j = L.length := by omega
        have t3 : ¬ (L.length : Int) < (L.length : Int) := by omega
        have xs0 := HR_s.out.c 0 rfl
        have xs1 := HR_s.out.c 1 rfl
        have xs2 := HR_s.out.c 2 rfl
        have xs3 := HR_s.out.c 3 rfl
        have xs4 := HR_s.out.c 4 rfl
        have xs5 := HR_s.out.c 5 rfl
        have zs := HR_s.out.2.2
        have xp0 := HR_p.out.c 0 rfl
        have xp1 := HR_p.out.c 1 rfl
        have xp2 := HR_p.out.c 2 rfl
        have zp := HR_p.out.2.2
        go_wp2
        go_ret
        exact ⟨rfl, HRB.out⟩
      have HJL := Lib.hid hjl
      have t3 : (j : Int) < (L.length : Int) := by omega
      have g2 : L.length ≤ 70 := HFP.out.2.1
      clear hj hjl
      by_cases hjk : j = k
      · skip
        have t4 : ((j : Int) != (k : Int)) = false := by simp; omega
        have t5 : ((j : Int) == (k : Int)) = true := by simp; omega
        have t6 : (j == k) = true := by simpa using hjk
        have t7 : (j != k) = false := by simpa using hjk
        have xs0 := HR_s.out.c 0 rfl
        have xs1 := HR_s.out.c 1 rfl
        have xs2 := HR_s.out.c 2 rfl
        have xs3 := HR_s.out.c 3 rfl
        have xs4 := HR_s.out.c 4 rfl
        have xs5 := HR_s.out.c 5 rfl
        have zs := HR_s.out.2.2
        have xp0 := HR_p.out.c 0 rfl
        have xp1 := HR_p.out.c 1 rfl
        have xp2 := HR_p.out.c 2 rfl
        have zp := HR_p.out.2.2
        go_upto_region 12 with fail
        go_cut [97] from 80 to 97 (fun p wq => p = .bool false ∧ Below wr.heap.size wr wq)
        case first =>
          go_quiet (fail)
          go_wp2
          go_meet
          exact ⟨rfl, below_drewN' _ _ _⟩
        case rest =>
          obtain ⟨rfl, hbq⟩ := hcut
          have HW2 := Lib.hid (keep2 hbq HW.out)
          clear t4 t5 t6 t7 hbq xs0 xs1 xs2 xs3 xs4 xs5 zs xp0 xp1 xp2 zp
          go_wp2
          go_roundw
          case rel => exact ⟨j + 1, HJL.out, by go_num, HW2⟩
          case measure => have := HJL.out; simp [intOf]; omega
      · skip
        have HJK := Lib.hid hjk
        clear hjk
        have HJ1 := Lib.hid (show j < L1.length by rw [HLN.out]; exact HJL.out)
        obtain ⟨b1, o1, e1, ya, yc, x1, z1, y1⟩ := rows_at HR_R.out HJL.out
        have hT9 := HR_T.out
        obtain ⟨b2, o2, e2, za, zc, x2, z2, y2⟩ := rows_at hT9 HJ1.out
        clear hT9
        rw [HAF.out.2.2.2.2 j HJK.out] at x2 y2
        subst e1
        obtain ⟨rfl, rfl⟩ : bt = b2 ∧ ot = o2 := by simpa using e2
        clear e2
        obtain ⟨x, hx⟩ : ∃ z9, L.getD j [] = z9 := ⟨_, rfl⟩
        rw [hx] at x1 x2 y1 y2
        clear hx
        have HX1 := Lib.hid x1
        have HX2 := Lib.hid x2
        have HZ1 := Lib.hid z1
        have HZ2 := Lib.hid z2
        have HY1 := Lib.hid y1
        have HY2 := Lib.hid y2
        clear x1 x2 z1 z2 y1 y2
        have xs0 := HR_s.out.c 0 rfl
        have xs1 := HR_s.out.c 1 rfl
        have xs2 := HR_s.out.c 2 rfl
        have xs3 := HR_s.out.c 3 rfl
        have xs4 := HR_s.out.c 4 rfl
        have xs5 := HR_s.out.c 5 rfl
        have zs := HR_s.out.2.2
        have xp0 := HR_p.out.c 0 rfl
        have xp1 := HR_p.out.c 1 rfl
        have xp2 := HR_p.out.c 2 rfl
        have zp := HR_p.out.2.2
        go_upto_region 12 with fail
        clear xs0 xs1 xs2 xs3 xs4 xs5 zs xp0 xp1 xp2 zp
        obtain ⟨lit, hlit⟩ : ∃ lit : (Nat → Value) → Act, lit = fun vs => { tmps := List.toArray (Value.agg #[Value.int IntKind.i64 m.v, Value.int IntKind.i64 m.c, Value.int IntKind.i64 m.s, Value.int IntKind.i64 m.r, Value.int IntKind.i64 m.t, Value.slice (some { block := b1, off := o1 }) L.length vc] :: Value.agg #[Value.int IntKind.i64 (k : Int), Value.slice da d.length dc, Value.slice pa p.length pc] :: Value.pointer (some { block := w.heap.size, off := 0 }) :: Value.pointer (some { block := w.heap.size + 1, off := 0 }) :: u4 :: Value.bool true :: Value.pointer (some { block := UA.heap.size, off := 0 }) :: Value.int IntKind.i64 0 :: Value.int IntKind.i64 (j : Int) :: Value.bool true :: Value.agg #[Value.int IntKind.i64 m.v, Value.int IntKind.i64 m.c, Value.int IntKind.i64 m.s, Value.int IntKind.i64 m.r, Value.int IntKind.i64 m.t, Value.slice (some { block := b1, off := o1 }) L.length vc] :: Value.agg #[Value.int IntKind.i64 (k : Int), Value.slice da d.length dc, Value.slice pa p.length pc] :: Value.bool true :: Value.bool false :: Value.bool false :: Value.agg #[Value.int IntKind.i64 m.v, Value.int IntKind.i64 m.c, Value.int IntKind.i64 m.s, Value.int IntKind.i64 m.r, Value.int IntKind.i64 m.t, Value.slice (some { block := b1, off := o1 }) L.length vc] :: Value.bool true :: Value.bool false :: Value.bool false :: undef :: Value.tuple #[Value.agg #[Value.int IntKind.i64 m.v, Value.int IntKind.i64 m.c, Value.int IntKind.i64 m.s, Value.int IntKind.i64 m.r, Value.int IntKind.i64 m.t, Value.slice (some { block := bt, off := ot }) L.length rc], Value.int IntKind.i64 0] :: Value.agg #[Value.int IntKind.i64 m.v, Value.int IntKind.i64 m.c, Value.int IntKind.i64 m.s, Value.int IntKind.i64 m.r, Value.int IntKind.i64 m.t, Value.slice (some { block := b1, off := o1 }) L.length vc] :: Value.agg #[Value.int IntKind.i64 (k : Int), Value.slice da d.length dc, Value.slice pa p.length pc] :: Value.tuple #[Value.agg #[Value.int IntKind.i64 m.v, Value.int IntKind.i64 m.c, Value.int IntKind.i64 m.s, Value.int IntKind.i64 m.r, Value.int IntKind.i64 m.t, Value.slice (some { block := bt, off := ot }) L.length rc], Value.int IntKind.i64 0] :: Value.agg #[Value.int IntKind.i64 m.v, Value.int IntKind.i64 m.c, Value.int IntKind.i64 m.s, Value.int IntKind.i64 m.r, Value.int IntKind.i64 m.t, Value.slice (some { block := bt, off := ot }) L.length rc] :: Value.int IntKind.i64 0 :: Value.int IntKind.i64 0 :: Value.bool false :: undef :: undef :: undef :: undef :: undef :: undef :: us7 0 :: us7 1 :: us7 2 :: us7 3 :: us7 4 :: us7 5 :: us7 6 :: us7 7 :: us7 8 :: us7 9 :: us7 10 :: us7 11 :: us7 12 :: us7 13 :: us7 14 :: us7 15 :: us7 16 :: us7 17 :: us7 18 :: us7 19 :: us7 20 :: us7 21 :: us7 22 :: us7 23 :: us7 24 :: us7 25 :: us7 26 :: us7 27 :: us7 28 :: us7 29 :: us7 30 :: us7 31 :: us7 32 :: us7 33 :: us7 34 :: us7 35 :: us7 36 :: us7 37 :: Value.bool false :: Value.int IntKind.i64 (j : Int) :: Value.pointer (some { block := w.heap.size, off := 5 }) :: Value.slice (some { block := b1, off := o1 }) L.length vc :: Value.int IntKind.i64 (L.length : Int) :: Value.bool true :: u78 :: u79 :: vs 0 :: vs 1 :: vs 2 :: vs 3 :: vs 4 :: vs 5 :: vs 6 :: vs 7 :: vs 8 :: vs 9 :: vs 10 :: vs 11 :: vs 12 :: vs 13 :: vs 14 :: vs 15 :: vs 16 :: vs 17 :: undef :: []), defers := [] } := ⟨_, rfl⟩
        have HLIT := Lib.hid hlit
        clear hlit
        obtain ⟨val, hval⟩ : ∃ val : List Value, val = [.int .i64 (j : Int), .pointer (some ⟨(w.heap.size + 1), 0, none⟩), .int .i64 (k : Int), .bool true, .bool true, .pointer (some ⟨(w.heap.size), 5, none⟩), .slice (some ⟨b1, o1, none⟩) L.length vc, .int .i64 (j : Int), .pointer (some ⟨b1, o1 + j, none⟩), .slice ya x.length yc, .pointer (some ⟨(UA.heap.size), 5, none⟩), .slice (some ⟨bt, ot, none⟩) L.length rc, .int .i64 (j : Int), .pointer (some ⟨bt, ot + j, none⟩), .slice za x.length zc, .bool true, .bool false, .bool false] := ⟨_, rfl⟩
        have E0 := Lib.hid (show val.getD 0 undef = .int .i64 (j : Int) by rw [hval]; rfl)
        have E1 := Lib.hid (show val.getD 1 undef = .pointer (some ⟨(w.heap.size + 1), 0, none⟩) by rw [hval]; rfl)
        have E2 := Lib.hid (show val.getD 2 undef = .int .i64 (k : Int) by rw [hval]; rfl)
        have E3 := Lib.hid (show val.getD 3 undef = .bool true by rw [hval]; rfl)
        have E4 := Lib.hid (show val.getD 4 undef = .bool true by rw [hval]; rfl)
        have E5 := Lib.hid (show val.getD 5 undef = .pointer (some ⟨(w.heap.size), 5, none⟩) by rw [hval]; rfl)
        have E6 := Lib.hid (show val.getD 6 undef = .slice (some ⟨b1, o1, none⟩) L.length vc by rw [hval]; rfl)
        have E7 := Lib.hid (show val.getD 7 undef = .int .i64 (j : Int) by rw [hval]; rfl)
        have E8 := Lib.hid (show val.getD 8 undef = .pointer (some ⟨b1, o1 + j, none⟩) by rw [hval]; rfl)
        have E9 := Lib.hid (show val.getD 9 undef = .slice ya x.length yc by rw [hval]; rfl)
        have E10 := Lib.hid (show val.getD 10 undef = .pointer (some ⟨(UA.heap.size), 5, none⟩) by rw [hval]; rfl)
        have E11 := Lib.hid (show val.getD 11 undef = .slice (some ⟨bt, ot, none⟩) L.length rc by rw [hval]; rfl)
        have E12 := Lib.hid (show val.getD 12 undef = .int .i64 (j : Int) by rw [hval]; rfl)
        have E13 := Lib.hid (show val.getD 13 undef = .pointer (some ⟨bt, ot + j, none⟩) by rw [hval]; rfl)
        have E14 := Lib.hid (show val.getD 14 undef = .slice za x.length zc by rw [hval]; rfl)
        have E15 := Lib.hid (show val.getD 15 undef = .bool true by rw [hval]; rfl)
        have E16 := Lib.hid (show val.getD 16 undef = .bool false by rw [hval]; rfl)
        have E17 := Lib.hid (show val.getD 17 undef = .bool false by rw [hval]; rfl)
        clear hval
        obtain ⟨G, hG0⟩ : ∃ G : Nat → Value → World → Prop, G = (fun i v w => (v = val.getD i undef)) := ⟨_, rfl⟩
        have HG := Lib.hid hG0
        clear hG0
        refine region_inv (RS lit wr G) (by kernel_rfl) (by decide +kernel) ?_ ?_ ?_
        · exact ⟨fun i => ([u80, u81, u82, u83, u84, u85, u86, u87, u88, u89, u90, u91, u92, u93, u94, u95, u96, u97] : List Value).getD i undef, (by rw [HLIT.out]; rfl), below_drew _ _, fun i h => by cases h⟩
        · refine ⟨?_, ?_, ?_, ?_, ?_, ?_, ?_, ?_, ?_, ?_, ?_, ?_, ?_, ?_, ?_, ?_, ?_, ?_, trivial⟩
          · intro bf ac wv hfb haf hJ K' hK
            obtain ⟨vs, rfl, hM, j4⟩ := hJ
            replace hK := Lib.hid hK
            replace hM := Lib.hid hM
            rw [HG.out] at j4
            replace j4 := Lib.hid j4
            clear haf hfb
            rw [HLIT.out]
            go_simp
            exact hK.out _ _ (RS.next (wv := wv) (vs := vs) 0 (x := .int .i64 (j : Int)) (by rw [HLIT.out]; rfl) (by rw [HG.out]; exact j4.out) hM.out (by rw [HG.out]; exact fun _ _ h => h) (by rw [HG.out]; exact E0.out.symm))
          · intro bf ac wv hfb haf hJ K' hK
            obtain ⟨vs, rfl, hM, j4⟩ := hJ
            replace hK := Lib.hid hK
            replace hM := Lib.hid hM
            rw [HG.out] at j4
            replace j4 := Lib.hid j4
            clear haf hfb
            rw [HLIT.out]
            go_simp
            exact hK.out _ _ (RS.next (wv := wv) (vs := vs) 1 (x := .pointer (some ⟨(w.heap.size + 1), 0, none⟩)) (by rw [HLIT.out]; rfl) (by rw [HG.out]; exact j4.out) hM.out (by rw [HG.out]; exact fun _ _ h => h) (by rw [HG.out]; exact E1.out.symm))
          · intro bf ac wv hfb haf hJ K' hK
            obtain ⟨vs, rfl, hM, j4⟩ := hJ
            replace hK := Lib.hid hK
            replace hM := Lib.hid hM
            rw [HG.out] at j4
            simp [Region.binds] at haf
            have e1 := ((j4 1 (by simp [haf]))).trans E1.out
            replace j4 := Lib.hid j4
            clear haf hfb
            have xp0 := (HR_p.out.step hM.out).c 0 rfl
            have xzp := (HR_p.out.step hM.out).2.2
            rw [HLIT.out]
            go_simp
            exact hK.out _ _ (RS.next (wv := wv) (vs := vs) 2 (x := .int .i64 (k : Int)) (by rw [HLIT.out]; simp only [upv, e1, Nat.reduceBEq, cond_true, cond_false]) (by rw [HG.out]; exact j4.out) hM.out (by rw [HG.out]; exact fun _ _ h => h) (by rw [HG.out]; exact E2.out.symm))
          · intro bf ac wv hfb haf hJ K' hK
            obtain ⟨vs, rfl, hM, j4⟩ := hJ
            replace hK := Lib.hid hK
            replace hM := Lib.hid hM
            rw [HG.out] at j4
            simp [Region.binds] at haf
            have e0 := ((j4 0 (by simp [haf]))).trans E0.out
            have e2 := ((j4 2 (by simp [haf]))).trans E2.out
            replace j4 := Lib.hid j4
            clear haf hfb
            have f1 : ((j : Int) != (k : Int)) = true := by simp; have := HJK.out; omega
            have f2 : ((j : Int) == (k : Int)) = false := by simp; have := HJK.out; omega
            have f3 : ¬ j = k := HJK.out
            have f4 : ¬ (j : Int) = (k : Int) := by have := HJK.out; omega
            have f5 : (j == k) = false := by simpa using f3
            have f6 : (j != k) = true := by simpa using f3
            rw [HLIT.out]
            go_simp
            exact hK.out _ _ (RS.next (wv := wv) (vs := vs) 3 (x := .bool true) (by rw [HLIT.out]; simp only [upv, e0, e2, Nat.reduceBEq, cond_true, cond_false]) (by rw [HG.out]; exact j4.out) hM.out (by rw [HG.out]; exact fun _ _ h => h) (by rw [HG.out]; exact E3.out.symm))
          · intro bf ac wv hfb haf hJ K' hK
            obtain ⟨vs, rfl, hM, j4⟩ := hJ
            replace hK := Lib.hid hK
            replace hM := Lib.hid hM
            rw [HG.out] at j4
            simp [Region.binds] at haf
            have e3 := ((j4 3 (by simp [haf]))).trans E3.out
            replace j4 := Lib.hid j4
            clear haf hfb
            rw [HLIT.out]
            go_simp
            exact hK.out _ _ (RS.next (wv := wv) (vs := vs) 4 (x := .bool true) (by rw [HLIT.out]; simp only [upv, e3, Nat.reduceBEq, cond_true, cond_false]) (by rw [HG.out]; exact j4.out) hM.out (by rw [HG.out]; exact fun _ _ h => h) (by rw [HG.out]; exact E4.out.symm))
          · intro bf ac wv hfb haf hJ K' hK
            obtain ⟨vs, rfl, hM, j4⟩ := hJ
            replace hK := Lib.hid hK
            replace hM := Lib.hid hM
            rw [HG.out] at j4
            simp [Region.binds] at haf
            have e4 := ((j4 4 (by simp [haf]))).trans E4.out
            replace j4 := Lib.hid j4
            clear haf hfb
            rw [HLIT.out]
            go_simp
            exact hK.out _ _ (RS.next (wv := wv) (vs := vs) 5 (x := .pointer (some ⟨(w.heap.size), 5, none⟩)) (by rw [HLIT.out]; simp only [upv, e4, Nat.reduceBEq, cond_true, cond_false]) (by rw [HG.out]; exact j4.out) hM.out (by rw [HG.out]; exact fun _ _ h => h) (by rw [HG.out]; exact E5.out.symm))
          · intro bf ac wv hfb haf hJ K' hK
            obtain ⟨vs, rfl, hM, j4⟩ := hJ
            replace hK := Lib.hid hK
            replace hM := Lib.hid hM
            rw [HG.out] at j4
            simp [Region.binds] at haf
            have e4 := ((j4 4 (by simp [haf]))).trans E4.out
            have e5 := ((j4 5 (by simp [haf]))).trans E5.out
            replace j4 := Lib.hid j4
            clear haf hfb
            have xs5 := (HR_s.out.step hM.out).c 5 rfl
            have xzs := (HR_s.out.step hM.out).2.2
            rw [HLIT.out]
            go_simp
            exact hK.out _ _ (RS.next (wv := wv) (vs := vs) 6 (x := .slice (some ⟨b1, o1, none⟩) L.length vc) (by rw [HLIT.out]; simp only [upv, e4, e5, Nat.reduceBEq, cond_true, cond_false]) (by rw [HG.out]; exact j4.out) hM.out (by rw [HG.out]; exact fun _ _ h => h) (by rw [HG.out]; exact E6.out.symm))
          · intro bf ac wv hfb haf hJ K' hK
            obtain ⟨vs, rfl, hM, j4⟩ := hJ
            replace hK := Lib.hid hK
            replace hM := Lib.hid hM
            rw [HG.out] at j4
            simp [Region.binds] at haf
            have e4 := ((j4 4 (by simp [haf]))).trans E4.out
            replace j4 := Lib.hid j4
            clear haf hfb
            rw [HLIT.out]
            go_simp
            exact hK.out _ _ (RS.next (wv := wv) (vs := vs) 7 (x := .int .i64 (j : Int)) (by rw [HLIT.out]; simp only [upv, e4, Nat.reduceBEq, cond_true, cond_false]) (by rw [HG.out]; exact j4.out) hM.out (by rw [HG.out]; exact fun _ _ h => h) (by rw [HG.out]; exact E7.out.symm))
          · intro bf ac wv hfb haf hJ K' hK
            obtain ⟨vs, rfl, hM, j4⟩ := hJ
            replace hK := Lib.hid hK
            replace hM := Lib.hid hM
            rw [HG.out] at j4
            simp [Region.binds] at haf
            have e4 := ((j4 4 (by simp [haf]))).trans E4.out
            have e6 := ((j4 6 (by simp [haf]))).trans E6.out
            have e7 := ((j4 7 (by simp [haf]))).trans E7.out
            replace j4 := Lib.hid j4
            clear haf hfb
            have f1 : (j : Int) < (L.length : Int) := by have := HJL.out; omega
            have f2 : (j : Int).toNat = j := Int.toNat_natCast j
            have f3 := HJL.out
            have f4 : (0 : Int) ≤ (j : Int) := by omega
            rw [HLIT.out]
            go_simp
            exact hK.out _ _ (RS.next (wv := wv) (vs := vs) 8 (x := .pointer (some ⟨b1, o1 + j, none⟩)) (by rw [HLIT.out]; simp only [upv, e4, e6, e7, Nat.reduceBEq, cond_true, cond_false]) (by rw [HG.out]; exact j4.out) hM.out (by rw [HG.out]; exact fun _ _ h => h) (by rw [HG.out]; exact E8.out.symm))
          · intro bf ac wv hfb haf hJ K' hK
            obtain ⟨vs, rfl, hM, j4⟩ := hJ
            replace hK := Lib.hid hK
            replace hM := Lib.hid hM
            rw [HG.out] at j4
            simp [Region.binds] at haf
            have e4 := ((j4 4 (by simp [haf]))).trans E4.out
            have e8 := ((j4 8 (by simp [haf]))).trans E8.out
            replace j4 := Lib.hid j4
            clear haf hfb
            have r0 := keep1 hM.out HX1.out
            have rz := Nat.lt_of_lt_of_le HZ1.out hM.out.size
            rw [HLIT.out]
            go_simp
            exact hK.out _ _ (RS.next (wv := wv) (vs := vs) 9 (x := .slice ya x.length yc) (by rw [HLIT.out]; simp only [upv, e4, e8, Nat.reduceBEq, cond_true, cond_false]) (by rw [HG.out]; exact j4.out) hM.out (by rw [HG.out]; exact fun _ _ h => h) (by rw [HG.out]; exact E9.out.symm))
          · intro bf ac wv hfb haf hJ K' hK
            obtain ⟨vs, rfl, hM, j4⟩ := hJ
            replace hK := Lib.hid hK
            replace hM := Lib.hid hM
            rw [HG.out] at j4
            simp [Region.binds] at haf
            have e4 := ((j4 4 (by simp [haf]))).trans E4.out
            replace j4 := Lib.hid j4
            clear haf hfb
            rw [HLIT.out]
            go_simp
            exact hK.out _ _ (RS.next (wv := wv) (vs := vs) 10 (x := .pointer (some ⟨(UA.heap.size), 5, none⟩)) (by rw [HLIT.out]; simp only [upv, e4, Nat.reduceBEq, cond_true, cond_false]) (by rw [HG.out]; exact j4.out) hM.out (by rw [HG.out]; exact fun _ _ h => h) (by rw [HG.out]; exact E10.out.symm))
          · intro bf ac wv hfb haf hJ K' hK
            obtain ⟨vs, rfl, hM, j4⟩ := hJ
            replace hK := Lib.hid hK
            replace hM := Lib.hid hM
            rw [HG.out] at j4
            simp [Region.binds] at haf
            have e4 := ((j4 4 (by simp [haf]))).trans E4.out
            have e10 := ((j4 10 (by simp [haf]))).trans E10.out
            replace j4 := Lib.hid j4
            clear haf hfb
            have xt5 := (HR_t.out.step hM.out).c 5 rfl
            have xzt := (HR_t.out.step hM.out).2.2
            rw [HLIT.out]
            go_simp
            exact hK.out _ _ (RS.next (wv := wv) (vs := vs) 11 (x := .slice (some ⟨bt, ot, none⟩) L.length rc) (by rw [HLIT.out]; simp only [upv, e4, e10, Nat.reduceBEq, cond_true, cond_false]) (by rw [HG.out]; exact j4.out) hM.out (by rw [HG.out]; exact fun _ _ h => h) (by rw [HG.out]; exact E11.out.symm))
          · intro bf ac wv hfb haf hJ K' hK
            obtain ⟨vs, rfl, hM, j4⟩ := hJ
            replace hK := Lib.hid hK
            replace hM := Lib.hid hM
            rw [HG.out] at j4
            simp [Region.binds] at haf
            have e4 := ((j4 4 (by simp [haf]))).trans E4.out
            replace j4 := Lib.hid j4
            clear haf hfb
            rw [HLIT.out]
            go_simp
            exact hK.out _ _ (RS.next (wv := wv) (vs := vs) 12 (x := .int .i64 (j : Int)) (by rw [HLIT.out]; simp only [upv, e4, Nat.reduceBEq, cond_true, cond_false]) (by rw [HG.out]; exact j4.out) hM.out (by rw [HG.out]; exact fun _ _ h => h) (by rw [HG.out]; exact E12.out.symm))
          · intro bf ac wv hfb haf hJ K' hK
            obtain ⟨vs, rfl, hM, j4⟩ := hJ
            replace hK := Lib.hid hK
            replace hM := Lib.hid hM
            rw [HG.out] at j4
            simp [Region.binds] at haf
            have e4 := ((j4 4 (by simp [haf]))).trans E4.out
            have e11 := ((j4 11 (by simp [haf]))).trans E11.out
            have e12 := ((j4 12 (by simp [haf]))).trans E12.out
            replace j4 := Lib.hid j4
            clear haf hfb
            have f1 : (j : Int) < (L.length : Int) := by have := HJL.out; omega
            have f2 : (j : Int).toNat = j := Int.toNat_natCast j
            have f3 := HJL.out
            have f4 : (0 : Int) ≤ (j : Int) := by omega
            rw [HLIT.out]
            go_simp
            exact hK.out _ _ (RS.next (wv := wv) (vs := vs) 13 (x := .pointer (some ⟨bt, ot + j, none⟩)) (by rw [HLIT.out]; simp only [upv, e4, e11, e12, Nat.reduceBEq, cond_true, cond_false]) (by rw [HG.out]; exact j4.out) hM.out (by rw [HG.out]; exact fun _ _ h => h) (by rw [HG.out]; exact E13.out.symm))
          · intro bf ac wv hfb haf hJ K' hK
            obtain ⟨vs, rfl, hM, j4⟩ := hJ
            replace hK := Lib.hid hK
            replace hM := Lib.hid hM
            rw [HG.out] at j4
            simp [Region.binds] at haf
            have e4 := ((j4 4 (by simp [haf]))).trans E4.out
            have e13 := ((j4 13 (by simp [haf]))).trans E13.out
            replace j4 := Lib.hid j4
            clear haf hfb
            have r0 := keep1 hM.out HX2.out
            have rz := Nat.lt_of_lt_of_le HZ2.out hM.out.size
            rw [HLIT.out]
            go_simp
            exact hK.out _ _ (RS.next (wv := wv) (vs := vs) 14 (x := .slice za x.length zc) (by rw [HLIT.out]; simp only [upv, e4, e13, Nat.reduceBEq, cond_true, cond_false]) (by rw [HG.out]; exact j4.out) hM.out (by rw [HG.out]; exact fun _ _ h => h) (by rw [HG.out]; exact E14.out.symm))
          · intro bf ac wv hfb haf hJ K' hK
            obtain ⟨vs, rfl, hM, j4⟩ := hJ
            replace hK := Lib.hid hK
            replace hM := Lib.hid hM
            rw [HG.out] at j4
            simp [Region.binds] at haf
            have e4 := ((j4 4 (by simp [haf]))).trans E4.out
            have e9 := ((j4 9 (by simp [haf]))).trans E9.out
            have e14 := ((j4 14 (by simp [haf]))).trans E14.out
            replace j4 := Lib.hid j4
            clear haf hfb
            rw [HLIT.out]
            go_simp
            go_at_call 21
            refine (ints_bel _ _ x x wv (HY1.out.step hM.out) (HY2.out.step hM.out)).mono ?_
            rintro e w4 ⟨rfl, b4⟩
            rw [decide_eq_true (rfl : x = x)]
            exact hK.out _ _ (RS.next (wv := wv) (vs := vs) 15 (x := .bool true) (by rw [HLIT.out]; simp only [upv, e4, e9, e14, Nat.reduceBEq, cond_true, cond_false]) (by rw [HG.out]; exact j4.out) (keep2 b4 hM.out) (by rw [HG.out]; exact fun _ _ h => h) (by rw [HG.out]; exact E15.out.symm))
          · intro bf ac wv hfb haf hJ K' hK
            obtain ⟨vs, rfl, hM, j4⟩ := hJ
            replace hK := Lib.hid hK
            replace hM := Lib.hid hM
            rw [HG.out] at j4
            simp [Region.binds] at haf
            have e4 := ((j4 4 (by simp [haf]))).trans E4.out
            have e15 := ((j4 15 (by simp [haf]))).trans E15.out
            replace j4 := Lib.hid j4
            clear haf hfb
            rw [HLIT.out]
            go_simp
            exact hK.out _ _ (RS.next (wv := wv) (vs := vs) 16 (x := .bool false) (by rw [HLIT.out]; simp only [upv, e4, e15, Nat.reduceBEq, cond_true, cond_false]) (by rw [HG.out]; exact j4.out) hM.out (by rw [HG.out]; exact fun _ _ h => h) (by rw [HG.out]; exact E16.out.symm))
          · intro bf ac wv hfb haf hJ K' hK
            obtain ⟨vs, rfl, hM, j4⟩ := hJ
            replace hK := Lib.hid hK
            replace hM := Lib.hid hM
            rw [HG.out] at j4
            simp [Region.binds] at haf
            have e4 := ((j4 4 (by simp [haf]))).trans E4.out
            have e16 := ((j4 16 (by simp [haf]))).trans E16.out
            replace j4 := Lib.hid j4
            clear haf hfb
            rw [HLIT.out]
            go_simp
            exact hK.out _ _ (RS.next (wv := wv) (vs := vs) 17 (x := .bool false) (by rw [HLIT.out]; simp only [upv, e4, e16, Nat.reduceBEq, cond_true, cond_false]) (by rw [HG.out]; exact j4.out) hM.out (by rw [HG.out]; exact fun _ _ h => h) (by rw [HG.out]; exact E17.out.symm))
        · intro bf ac wv hall hJ
          obtain ⟨vs, rfl, hM, j4⟩ := hJ
          rw [HG.out] at j4
          have e17 := ((j4 17 (hall 17 (by decide)))).trans E17.out
          have HW2 := Lib.hid (keep2 hM HW.out)
          clear hM j4 hall
          rw [HLIT.out]
          dsimp only
          rw [e17]
          clear e17 HLIT HG
          generalize vs = us12
          go_wp2
          go_roundw
          case rel => exact ⟨j + 1, HJL.out, by go_num, HW2⟩
          case measure => have := HJL.out; simp [intOf]; omega
theorem errors_any (m : Mf) (v : Value) (L : List (List Int)) (i : Int) (dv : Value) (d : List Int) (pv : Value) (p : List Int) (w : World) (h : RowsAt w v L) (hd : IntsAt w dv d) (hp : CapI w pv p) : Calls Try.prog 8 #[.agg #[.int .i64 m.v, .int .i64 m.c, .int .i64 m.s, .int .i64 m.r, .int .i64 m.t, v], .agg #[.int .i64 i, dv, pv]] w fun e w' => e = .returned (.bool true) ∧ Below w.heap.size w w' := by
  cases hF : fwB L d p
  · exact er_few m v L i dv d pv p w h hd hp hF
  · cases hS : slB m L
    · exact er_slot m v L i dv d pv p w h hd hp hF hS
    · by_cases hA : adE m L i d p = 0
      · obtain ⟨k, rfl⟩ := Int.eq_ofNat_of_zero_le (al_facts hA).1
        exact er_y m v L k dv d pv p w h hd hp hF hS hA
      · rcases ad_some hS hA with q | q
        · exact er_f m v L i dv d pv p w h hd hp hF hS q
        · exact er_g m v L i dv d pv p w h hd hp hF hS q
end Go.Proofs.Yteodafhgfcbdpaa
