import Derived.Test.YteodafhgfcbdpaaUo
import Derived.Test.YteodafhgfcbdpaaWd
import Derived.Test.YteodafhgfcbdpaaWl
namespace Go.Proofs.Yteodafhgfcbdpaa
open Go.RowKit

theorem flat_le : ∀ (L : List (List Int)), (∀ x ∈ L, x.length ≤ 40) → L.flatten.length ≤ 40 * L.length
  | [], _ => by simp
  | x :: L, h => by
    rw [List.flatten_cons, List.length_append, List.length_cons]
    have h1 := h x (by simp)
    have h2 := flat_le L fun y hy => h y (by simp [hy])
    omega
theorem bgL_le {key ver E : Int} {m : Mf} (h : bgE key ver m = E) : (bgL E m).length ≤ 1000 := by
  unfold bgL
  split
  · rename_i h0
    rw [List.length_replicate]
    have hm : mfB m = true := by
      rw [h0] at h
      unfold bgE at h
      by_cases q : (inB 0 2147483646 key && (inB 0 1000000 ver && mfB m)) = false
      · rw [if_pos q] at h; cases h
      · have : (inB 0 2147483646 key && (inB 0 1000000 ver && mfB m)) = true := by simpa using q
        simp only [Bool.and_eq_true] at this
        exact this.2.2
    have := (mfB_parts hm).2.1
    omega
  · simp
theorem adL_len {m : Mf} {L : List (List Int)} {i : Int} {d p : List Int} (h : L.length ≤ 1000) : (adL m L i d p).length ≤ 1000 := by
  unfold adL
  split
  · simpa using h
  · exact h
theorem al_ra (m : Mf) (L : List (List Int)) (i : Int) (d p : List Int) : adL m L i d p = raL m L i d p := rfl
set_option maxRecDepth 100000 in
set_option maxHeartbeats 8000000 in
theorem mat_long (key ver s : Int) (v : Value) (D : List Int) (q m : Mf) (sv : Value) (L : List (List Int)) (i : Int) (dv : Value) (d : List Int) (pv : Value) (p : List Int) (w : World) (h : IntsAt w v D) (hcp : ∀ a n c, v = .slice a n c → n ≤ c) (hs : RowsAt w sv L) (hd : IntsAt w dv d) (hp : CapI w pv p) (hL : 200 < D.length) : Calls Try.prog 3 #[.int .i64 key, .int .i64 ver, .int .i64 s, v, .agg #[.int .i64 q.v, .int .i64 q.c, .int .i64 q.s, .int .i64 q.r, .int .i64 q.t], .agg #[.int .i64 m.v, .int .i64 m.c, .int .i64 m.s, .int .i64 m.r, .int .i64 m.t, sv], .agg #[.int .i64 i, dv, pv]] w (fun e w' => e = .returned (.bool true) ∧ Below w.heap.size w w') := by
  have H0 := Lib.hid (Below.refl w.heap.size w)
  have H1 := Lib.hid (h)
  have H2 := Lib.hid (hs)
  have H3 := Lib.hid (hd)
  have H4 := Lib.hid (hp)
  obtain ⟨va, vc, rfl, -, -⟩ := h
  obtain ⟨sa, sc, rfl, -, -⟩ := hs
  obtain ⟨da, dc, rfl, -, -⟩ := hd
  obtain ⟨-, pa, pc, rfl, -⟩ := hp
  replace hcp := Lib.hid (hcp _ _ _ rfl)
  replace hL := Lib.hid hL
  have H5 := Lib.hid (Cs.newB H0.out (w.heap.size) #[.int .i64 q.v, .int .i64 q.c, .int .i64 q.s, .int .i64 q.r, .int .i64 q.t] 24 (by simp))
  have H6 := Lib.hid (H1.out.step (al _ (.cells #[.int .i64 q.v, .int .i64 q.c, .int .i64 q.s, .int .i64 q.r, .int .i64 q.t] 24)))
  clear H1
  have H7 := Lib.hid (H2.out.step (al _ (.cells #[.int .i64 q.v, .int .i64 q.c, .int .i64 q.s, .int .i64 q.r, .int .i64 q.t] 24)))
  clear H2
  have H8 := Lib.hid (H3.out.step (al _ (.cells #[.int .i64 q.v, .int .i64 q.c, .int .i64 q.s, .int .i64 q.r, .int .i64 q.t] 24)))
  clear H3
  have H9 := Lib.hid (H4.out.step (al _ (.cells #[.int .i64 q.v, .int .i64 q.c, .int .i64 q.s, .int .i64 q.r, .int .i64 q.t] 24)))
  clear H4
  have H10 := Lib.hid (keep2 (al _ (.cells #[.int .i64 q.v, .int .i64 q.c, .int .i64 q.s, .int .i64 q.r, .int .i64 q.t] 24)) H0.out)
  clear H0
  have H11 := Lib.hid (Cs.newB H10.out (w.heap.size + 1) #[.int .i64 m.v, .int .i64 m.c, .int .i64 m.s, .int .i64 m.r, .int .i64 m.t, .slice sa L.length sc] 27 (by simp))
  have H12 := Lib.hid (H6.out.step (al _ (.cells #[.int .i64 m.v, .int .i64 m.c, .int .i64 m.s, .int .i64 m.r, .int .i64 m.t, .slice sa L.length sc] 27)))
  clear H6
  have H13 := Lib.hid (H7.out.step (al _ (.cells #[.int .i64 m.v, .int .i64 m.c, .int .i64 m.s, .int .i64 m.r, .int .i64 m.t, .slice sa L.length sc] 27)))
  clear H7
  have H14 := Lib.hid (H8.out.step (al _ (.cells #[.int .i64 m.v, .int .i64 m.c, .int .i64 m.s, .int .i64 m.r, .int .i64 m.t, .slice sa L.length sc] 27)))
  clear H8
  have H15 := Lib.hid (H9.out.step (al _ (.cells #[.int .i64 m.v, .int .i64 m.c, .int .i64 m.s, .int .i64 m.r, .int .i64 m.t, .slice sa L.length sc] 27)))
  clear H9
  have H16 := Lib.hid (H5.out.step (al _ (.cells #[.int .i64 m.v, .int .i64 m.c, .int .i64 m.s, .int .i64 m.r, .int .i64 m.t, .slice sa L.length sc] 27)))
  clear H5
  have H17 := Lib.hid (keep2 (al _ (.cells #[.int .i64 m.v, .int .i64 m.c, .int .i64 m.s, .int .i64 m.r, .int .i64 m.t, .slice sa L.length sc] 27)) H10.out)
  clear H10
  have H18 := Lib.hid (Cs.newB H17.out (w.heap.size + 1 + 1) #[.int .i64 i, .slice da d.length dc, .slice pa p.length pc] 29 (by simp))
  have H19 := Lib.hid (H12.out.step (al _ (.cells #[.int .i64 i, .slice da d.length dc, .slice pa p.length pc] 29)))
  clear H12
  have H20 := Lib.hid (H13.out.step (al _ (.cells #[.int .i64 i, .slice da d.length dc, .slice pa p.length pc] 29)))
  clear H13
  have H21 := Lib.hid (H14.out.step (al _ (.cells #[.int .i64 i, .slice da d.length dc, .slice pa p.length pc] 29)))
  clear H14
  have H22 := Lib.hid (H15.out.step (al _ (.cells #[.int .i64 i, .slice da d.length dc, .slice pa p.length pc] 29)))
  clear H15
  have H23 := Lib.hid (H16.out.step (al _ (.cells #[.int .i64 i, .slice da d.length dc, .slice pa p.length pc] 29)))
  clear H16
  have H24 := Lib.hid (H11.out.step (al _ (.cells #[.int .i64 i, .slice da d.length dc, .slice pa p.length pc] 29)))
  clear H11
  have H25 := Lib.hid (keep2 (al _ (.cells #[.int .i64 i, .slice da d.length dc, .slice pa p.length pc] 29)) H17.out)
  clear H17
  go_enter Try.func3, Try.ntmps3
  have xs0 := H24.out.c 0 rfl
  have xs1 := H24.out.c 1 rfl
  have xs2 := H24.out.c 2 rfl
  have xs3 := H24.out.c 3 rfl
  have xs4 := H24.out.c 4 rfl
  have xs5 := H24.out.c 5 rfl
  have zs := H24.out.2.2
  have xp0 := H18.out.c 0 rfl
  have xp1 := H18.out.c 1 rfl
  have xp2 := H18.out.c 2 rfl
  have zp := H18.out.2.2
  have xq0 := H23.out.c 0 rfl
  have xq1 := H23.out.c 1 rfl
  have xq2 := H23.out.c 2 rfl
  have xq3 := H23.out.c 3 rfl
  have xq4 := H23.out.c 4 rfl
  have zq := H23.out.2.2
  go_wp2_with fail
  refine (head_any _).mono ?_
  rintro e u1 ⟨rfl, b1⟩
  clear xs0 xs1 xs2 xs3 xs4 xs5 zs xp0 xp1 xp2 zp xq0 xq1 xq2 xq3 xq4 zq
  have H26 := Lib.hid (H19.out.step b1)
  clear H19
  have H27 := Lib.hid (H20.out.step b1)
  clear H20
  have H28 := Lib.hid (H21.out.step b1)
  clear H21
  have H29 := Lib.hid (H22.out.step b1)
  clear H22
  have H30 := Lib.hid (H23.out.step b1)
  clear H23
  have H31 := Lib.hid (H24.out.step b1)
  clear H24
  have H32 := Lib.hid (H18.out.step b1)
  clear H18
  have H33 := Lib.hid (keep2 b1 H25.out)
  clear H25
  clear b1
  have xs0 := H31.out.c 0 rfl
  have xs1 := H31.out.c 1 rfl
  have xs2 := H31.out.c 2 rfl
  have xs3 := H31.out.c 3 rfl
  have xs4 := H31.out.c 4 rfl
  have xs5 := H31.out.c 5 rfl
  have zs := H31.out.2.2
  have xp0 := H32.out.c 0 rfl
  have xp1 := H32.out.c 1 rfl
  have xp2 := H32.out.c 2 rfl
  have zp := H32.out.2.2
  have g1 : decide ((D.length : Int) > 200) = true := by simp; have := hL.out; omega
  have g1b : decide ((200 : Int) < (D.length : Int)) = true := by simp; have := hL.out; omega
  go_wp2
  go_ret
  exact ⟨rfl, H33.out⟩
set_option maxRecDepth 100000 in
set_option maxHeartbeats 8000000 in
theorem mat_few (key ver s : Int) (v : Value) (D : List Int) (q m : Mf) (sv : Value) (L : List (List Int)) (i : Int) (dv : Value) (d : List Int) (pv : Value) (p : List Int) (w : World) (h : IntsAt w v D) (hcp : ∀ a n c, v = .slice a n c → n ≤ c) (hs : RowsAt w sv L) (hd : IntsAt w dv d) (hp : CapI w pv p) (hL : D.length ≤ 200) (hF : fwB L d p = false) : Calls Try.prog 3 #[.int .i64 key, .int .i64 ver, .int .i64 s, v, .agg #[.int .i64 q.v, .int .i64 q.c, .int .i64 q.s, .int .i64 q.r, .int .i64 q.t], .agg #[.int .i64 m.v, .int .i64 m.c, .int .i64 m.s, .int .i64 m.r, .int .i64 m.t, sv], .agg #[.int .i64 i, dv, pv]] w (fun e w' => e = .returned (.bool true) ∧ Below w.heap.size w w') := by
  have H0 := Lib.hid (Below.refl w.heap.size w)
  have H1 := Lib.hid (h)
  have H2 := Lib.hid (hs)
  have H3 := Lib.hid (hd)
  have H4 := Lib.hid (hp)
  obtain ⟨va, vc, rfl, -, -⟩ := h
  obtain ⟨sa, sc, rfl, -, -⟩ := hs
  obtain ⟨da, dc, rfl, -, -⟩ := hd
  obtain ⟨-, pa, pc, rfl, -⟩ := hp
  replace hcp := Lib.hid (hcp _ _ _ rfl)
  replace hL := Lib.hid hL
  replace hF := Lib.hid hF
  have H5 := Lib.hid (Cs.newB H0.out (w.heap.size) #[.int .i64 q.v, .int .i64 q.c, .int .i64 q.s, .int .i64 q.r, .int .i64 q.t] 24 (by simp))
  have H6 := Lib.hid (H1.out.step (al _ (.cells #[.int .i64 q.v, .int .i64 q.c, .int .i64 q.s, .int .i64 q.r, .int .i64 q.t] 24)))
  clear H1
  have H7 := Lib.hid (H2.out.step (al _ (.cells #[.int .i64 q.v, .int .i64 q.c, .int .i64 q.s, .int .i64 q.r, .int .i64 q.t] 24)))
  clear H2
  have H8 := Lib.hid (H3.out.step (al _ (.cells #[.int .i64 q.v, .int .i64 q.c, .int .i64 q.s, .int .i64 q.r, .int .i64 q.t] 24)))
  clear H3
  have H9 := Lib.hid (H4.out.step (al _ (.cells #[.int .i64 q.v, .int .i64 q.c, .int .i64 q.s, .int .i64 q.r, .int .i64 q.t] 24)))
  clear H4
  have H10 := Lib.hid (keep2 (al _ (.cells #[.int .i64 q.v, .int .i64 q.c, .int .i64 q.s, .int .i64 q.r, .int .i64 q.t] 24)) H0.out)
  clear H0
  have H11 := Lib.hid (Cs.newB H10.out (w.heap.size + 1) #[.int .i64 m.v, .int .i64 m.c, .int .i64 m.s, .int .i64 m.r, .int .i64 m.t, .slice sa L.length sc] 27 (by simp))
  have H12 := Lib.hid (H6.out.step (al _ (.cells #[.int .i64 m.v, .int .i64 m.c, .int .i64 m.s, .int .i64 m.r, .int .i64 m.t, .slice sa L.length sc] 27)))
  clear H6
  have H13 := Lib.hid (H7.out.step (al _ (.cells #[.int .i64 m.v, .int .i64 m.c, .int .i64 m.s, .int .i64 m.r, .int .i64 m.t, .slice sa L.length sc] 27)))
  clear H7
  have H14 := Lib.hid (H8.out.step (al _ (.cells #[.int .i64 m.v, .int .i64 m.c, .int .i64 m.s, .int .i64 m.r, .int .i64 m.t, .slice sa L.length sc] 27)))
  clear H8
  have H15 := Lib.hid (H9.out.step (al _ (.cells #[.int .i64 m.v, .int .i64 m.c, .int .i64 m.s, .int .i64 m.r, .int .i64 m.t, .slice sa L.length sc] 27)))
  clear H9
  have H16 := Lib.hid (H5.out.step (al _ (.cells #[.int .i64 m.v, .int .i64 m.c, .int .i64 m.s, .int .i64 m.r, .int .i64 m.t, .slice sa L.length sc] 27)))
  clear H5
  have H17 := Lib.hid (keep2 (al _ (.cells #[.int .i64 m.v, .int .i64 m.c, .int .i64 m.s, .int .i64 m.r, .int .i64 m.t, .slice sa L.length sc] 27)) H10.out)
  clear H10
  have H18 := Lib.hid (Cs.newB H17.out (w.heap.size + 1 + 1) #[.int .i64 i, .slice da d.length dc, .slice pa p.length pc] 29 (by simp))
  have H19 := Lib.hid (H12.out.step (al _ (.cells #[.int .i64 i, .slice da d.length dc, .slice pa p.length pc] 29)))
  clear H12
  have H20 := Lib.hid (H13.out.step (al _ (.cells #[.int .i64 i, .slice da d.length dc, .slice pa p.length pc] 29)))
  clear H13
  have H21 := Lib.hid (H14.out.step (al _ (.cells #[.int .i64 i, .slice da d.length dc, .slice pa p.length pc] 29)))
  clear H14
  have H22 := Lib.hid (H15.out.step (al _ (.cells #[.int .i64 i, .slice da d.length dc, .slice pa p.length pc] 29)))
  clear H15
  have H23 := Lib.hid (H16.out.step (al _ (.cells #[.int .i64 i, .slice da d.length dc, .slice pa p.length pc] 29)))
  clear H16
  have H24 := Lib.hid (H11.out.step (al _ (.cells #[.int .i64 i, .slice da d.length dc, .slice pa p.length pc] 29)))
  clear H11
  have H25 := Lib.hid (keep2 (al _ (.cells #[.int .i64 i, .slice da d.length dc, .slice pa p.length pc] 29)) H17.out)
  clear H17
  go_enter Try.func3, Try.ntmps3
  have xs0 := H24.out.c 0 rfl
  have xs1 := H24.out.c 1 rfl
  have xs2 := H24.out.c 2 rfl
  have xs3 := H24.out.c 3 rfl
  have xs4 := H24.out.c 4 rfl
  have xs5 := H24.out.c 5 rfl
  have zs := H24.out.2.2
  have xp0 := H18.out.c 0 rfl
  have xp1 := H18.out.c 1 rfl
  have xp2 := H18.out.c 2 rfl
  have zp := H18.out.2.2
  have xq0 := H23.out.c 0 rfl
  have xq1 := H23.out.c 1 rfl
  have xq2 := H23.out.c 2 rfl
  have xq3 := H23.out.c 3 rfl
  have xq4 := H23.out.c 4 rfl
  have zq := H23.out.2.2
  go_wp2_with fail
  refine (head_any _).mono ?_
  rintro e u1 ⟨rfl, b1⟩
  clear xs0 xs1 xs2 xs3 xs4 xs5 zs xp0 xp1 xp2 zp xq0 xq1 xq2 xq3 xq4 zq
  have H26 := Lib.hid (H19.out.step b1)
  clear H19
  have H27 := Lib.hid (H20.out.step b1)
  clear H20
  have H28 := Lib.hid (H21.out.step b1)
  clear H21
  have H29 := Lib.hid (H22.out.step b1)
  clear H22
  have H30 := Lib.hid (H23.out.step b1)
  clear H23
  have H31 := Lib.hid (H24.out.step b1)
  clear H24
  have H32 := Lib.hid (H18.out.step b1)
  clear H18
  have H33 := Lib.hid (keep2 b1 H25.out)
  clear H25
  clear b1
  have xs0 := H31.out.c 0 rfl
  have xs1 := H31.out.c 1 rfl
  have xs2 := H31.out.c 2 rfl
  have xs3 := H31.out.c 3 rfl
  have xs4 := H31.out.c 4 rfl
  have xs5 := H31.out.c 5 rfl
  have zs := H31.out.2.2
  have xp0 := H32.out.c 0 rfl
  have xp1 := H32.out.c 1 rfl
  have xp2 := H32.out.c 2 rfl
  have zp := H32.out.2.2
  have g1 : decide ((D.length : Int) > 200) = false := by simp; have := hL.out; omega
  have g1b : decide ((200 : Int) < (D.length : Int)) = false := by simp; have := hL.out; omega
  go_wp2_with fail
  refine (few_any m _ L i _ d _ p _ H27.out H28.out H29.out.1).mono ?_
  rintro e u2 ⟨rfl, b2⟩
  clear xs0 xs1 xs2 xs3 xs4 xs5 zs xp0 xp1 xp2 zp
  have H34 := Lib.hid (H26.out.step b2)
  clear H26
  have H35 := Lib.hid (H27.out.step b2)
  clear H27
  have H36 := Lib.hid (H28.out.step b2)
  clear H28
  have H37 := Lib.hid (H29.out.step b2)
  clear H29
  have H38 := Lib.hid (H30.out.step b2)
  clear H30
  have H39 := Lib.hid (H31.out.step b2)
  clear H31
  have H40 := Lib.hid (H32.out.step b2)
  clear H32
  have H41 := Lib.hid (keep2 b2 H33.out)
  clear H33
  clear b2
  clear g1 g1b
  rw [hF.out]
  go_wp2
  go_ret
  exact ⟨rfl, H41.out⟩
set_option maxRecDepth 100000 in
set_option maxHeartbeats 8000000 in
theorem mat_go (key ver s : Int) (v : Value) (D : List Int) (q m : Mf) (sv : Value) (L : List (List Int)) (i : Int) (dv : Value) (d : List Int) (pv : Value) (p : List Int) (w : World) (h : IntsAt w v D) (hcp : ∀ a n c, v = .slice a n c → n ≤ c) (hs : RowsAt w sv L) (hd : IntsAt w dv d) (hp : CapI w pv p) (hL : D.length ≤ 200) (hF : fwB L d p = true) : Calls Try.prog 3 #[.int .i64 key, .int .i64 ver, .int .i64 s, v, .agg #[.int .i64 q.v, .int .i64 q.c, .int .i64 q.s, .int .i64 q.r, .int .i64 q.t], .agg #[.int .i64 m.v, .int .i64 m.c, .int .i64 m.s, .int .i64 m.r, .int .i64 m.t, sv], .agg #[.int .i64 i, dv, pv]] w (fun e w' => e = .returned (.bool true) ∧ Below w.heap.size w w') := by
  have H0 := Lib.hid (Below.refl w.heap.size w)
  have H1 := Lib.hid (h)
  have H2 := Lib.hid (hs)
  have H3 := Lib.hid (hd)
  have H4 := Lib.hid (hp)
  obtain ⟨va, vc, rfl, -, -⟩ := h
  obtain ⟨sa, sc, rfl, -, -⟩ := hs
  obtain ⟨da, dc, rfl, -, -⟩ := hd
  obtain ⟨-, pa, pc, rfl, -⟩ := hp
  replace hcp := Lib.hid (hcp _ _ _ rfl)
  replace hL := Lib.hid hL
  replace hF := Lib.hid hF
  have H5 := Lib.hid (Cs.newB H0.out (w.heap.size) #[.int .i64 q.v, .int .i64 q.c, .int .i64 q.s, .int .i64 q.r, .int .i64 q.t] 24 (by simp))
  have H6 := Lib.hid (H1.out.step (al _ (.cells #[.int .i64 q.v, .int .i64 q.c, .int .i64 q.s, .int .i64 q.r, .int .i64 q.t] 24)))
  clear H1
  have H7 := Lib.hid (H2.out.step (al _ (.cells #[.int .i64 q.v, .int .i64 q.c, .int .i64 q.s, .int .i64 q.r, .int .i64 q.t] 24)))
  clear H2
  have H8 := Lib.hid (H3.out.step (al _ (.cells #[.int .i64 q.v, .int .i64 q.c, .int .i64 q.s, .int .i64 q.r, .int .i64 q.t] 24)))
  clear H3
  have H9 := Lib.hid (H4.out.step (al _ (.cells #[.int .i64 q.v, .int .i64 q.c, .int .i64 q.s, .int .i64 q.r, .int .i64 q.t] 24)))
  clear H4
  have H10 := Lib.hid (keep2 (al _ (.cells #[.int .i64 q.v, .int .i64 q.c, .int .i64 q.s, .int .i64 q.r, .int .i64 q.t] 24)) H0.out)
  clear H0
  have H11 := Lib.hid (Cs.newB H10.out (w.heap.size + 1) #[.int .i64 m.v, .int .i64 m.c, .int .i64 m.s, .int .i64 m.r, .int .i64 m.t, .slice sa L.length sc] 27 (by simp))
  have H12 := Lib.hid (H6.out.step (al _ (.cells #[.int .i64 m.v, .int .i64 m.c, .int .i64 m.s, .int .i64 m.r, .int .i64 m.t, .slice sa L.length sc] 27)))
  clear H6
  have H13 := Lib.hid (H7.out.step (al _ (.cells #[.int .i64 m.v, .int .i64 m.c, .int .i64 m.s, .int .i64 m.r, .int .i64 m.t, .slice sa L.length sc] 27)))
  clear H7
  have H14 := Lib.hid (H8.out.step (al _ (.cells #[.int .i64 m.v, .int .i64 m.c, .int .i64 m.s, .int .i64 m.r, .int .i64 m.t, .slice sa L.length sc] 27)))
  clear H8
  have H15 := Lib.hid (H9.out.step (al _ (.cells #[.int .i64 m.v, .int .i64 m.c, .int .i64 m.s, .int .i64 m.r, .int .i64 m.t, .slice sa L.length sc] 27)))
  clear H9
  have H16 := Lib.hid (H5.out.step (al _ (.cells #[.int .i64 m.v, .int .i64 m.c, .int .i64 m.s, .int .i64 m.r, .int .i64 m.t, .slice sa L.length sc] 27)))
  clear H5
  have H17 := Lib.hid (keep2 (al _ (.cells #[.int .i64 m.v, .int .i64 m.c, .int .i64 m.s, .int .i64 m.r, .int .i64 m.t, .slice sa L.length sc] 27)) H10.out)
  clear H10
  have H18 := Lib.hid (Cs.newB H17.out (w.heap.size + 1 + 1) #[.int .i64 i, .slice da d.length dc, .slice pa p.length pc] 29 (by simp))
  have H19 := Lib.hid (H12.out.step (al _ (.cells #[.int .i64 i, .slice da d.length dc, .slice pa p.length pc] 29)))
  clear H12
  have H20 := Lib.hid (H13.out.step (al _ (.cells #[.int .i64 i, .slice da d.length dc, .slice pa p.length pc] 29)))
  clear H13
  have H21 := Lib.hid (H14.out.step (al _ (.cells #[.int .i64 i, .slice da d.length dc, .slice pa p.length pc] 29)))
  clear H14
  have H22 := Lib.hid (H15.out.step (al _ (.cells #[.int .i64 i, .slice da d.length dc, .slice pa p.length pc] 29)))
  clear H15
  have H23 := Lib.hid (H16.out.step (al _ (.cells #[.int .i64 i, .slice da d.length dc, .slice pa p.length pc] 29)))
  clear H16
  have H24 := Lib.hid (H11.out.step (al _ (.cells #[.int .i64 i, .slice da d.length dc, .slice pa p.length pc] 29)))
  clear H11
  have H25 := Lib.hid (keep2 (al _ (.cells #[.int .i64 i, .slice da d.length dc, .slice pa p.length pc] 29)) H17.out)
  clear H17
  go_enter Try.func3, Try.ntmps3
  have xs0 := H24.out.c 0 rfl
  have xs1 := H24.out.c 1 rfl
  have xs2 := H24.out.c 2 rfl
  have xs3 := H24.out.c 3 rfl
  have xs4 := H24.out.c 4 rfl
  have xs5 := H24.out.c 5 rfl
  have zs := H24.out.2.2
  have xp0 := H18.out.c 0 rfl
  have xp1 := H18.out.c 1 rfl
  have xp2 := H18.out.c 2 rfl
  have zp := H18.out.2.2
  have xq0 := H23.out.c 0 rfl
  have xq1 := H23.out.c 1 rfl
  have xq2 := H23.out.c 2 rfl
  have xq3 := H23.out.c 3 rfl
  have xq4 := H23.out.c 4 rfl
  have zq := H23.out.2.2
  go_wp2_with fail
  refine (head_any _).mono ?_
  rintro e u1 ⟨rfl, b1⟩
  clear xs0 xs1 xs2 xs3 xs4 xs5 zs xp0 xp1 xp2 zp xq0 xq1 xq2 xq3 xq4 zq
  have H26 := Lib.hid (H19.out.step b1)
  clear H19
  have H27 := Lib.hid (H20.out.step b1)
  clear H20
  have H28 := Lib.hid (H21.out.step b1)
  clear H21
  have H29 := Lib.hid (H22.out.step b1)
  clear H22
  have H30 := Lib.hid (H23.out.step b1)
  clear H23
  have H31 := Lib.hid (H24.out.step b1)
  clear H24
  have H32 := Lib.hid (H18.out.step b1)
  clear H18
  have H33 := Lib.hid (keep2 b1 H25.out)
  clear H25
  clear b1
  have xs0 := H31.out.c 0 rfl
  have xs1 := H31.out.c 1 rfl
  have xs2 := H31.out.c 2 rfl
  have xs3 := H31.out.c 3 rfl
  have xs4 := H31.out.c 4 rfl
  have xs5 := H31.out.c 5 rfl
  have zs := H31.out.2.2
  have xp0 := H32.out.c 0 rfl
  have xp1 := H32.out.c 1 rfl
  have xp2 := H32.out.c 2 rfl
  have zp := H32.out.2.2
  have g1 : decide ((D.length : Int) > 200) = false := by simp; have := hL.out; omega
  have g1b : decide ((200 : Int) < (D.length : Int)) = false := by simp; have := hL.out; omega
  go_wp2_with fail
  refine (few_any m _ L i _ d _ p _ H27.out H28.out H29.out.1).mono ?_
  rintro e u2 ⟨rfl, b2⟩
  clear xs0 xs1 xs2 xs3 xs4 xs5 zs xp0 xp1 xp2 zp
  have H34 := Lib.hid (H26.out.step b2)
  clear H26
  have H35 := Lib.hid (H27.out.step b2)
  clear H27
  have H36 := Lib.hid (H28.out.step b2)
  clear H28
  have H37 := Lib.hid (H29.out.step b2)
  clear H29
  have H38 := Lib.hid (H30.out.step b2)
  clear H30
  have H39 := Lib.hid (H31.out.step b2)
  clear H31
  have H40 := Lib.hid (H32.out.step b2)
  clear H32
  have H41 := Lib.hid (keep2 b2 H33.out)
  clear H33
  clear b2
  clear g1 g1b
  rw [hF.out]
  have HFP := Lib.hid (fw_parts hF.out)
  obtain ⟨ea, hea⟩ : ∃ z9, spE key ver s D = z9 := ⟨_, rfl⟩
  replace hea := Lib.hid hea
  obtain ⟨M1, hM1⟩ : ∃ z9, spM key ver s D ea = z9 := ⟨_, rfl⟩
  replace hM1 := Lib.hid hM1
  obtain ⟨l1, hl1⟩ : ∃ z9, spL s D ea = z9 := ⟨_, rfl⟩
  replace hl1 := Lib.hid hl1
  go_wp2_with fail
  refine (split_own key ver s va vc D _ H34.out (by have := hL.out; omega) hcp.out hea.out hM1.out hl1.out).mono ?_
  rintro e u3 ⟨u1v, rfl, hu1, hn1, b3⟩
  have H42 := Lib.hid (H34.out.step b3)
  clear H34
  have H43 := Lib.hid (H35.out.step b3)
  clear H35
  have H44 := Lib.hid (H36.out.step b3)
  clear H36
  have H45 := Lib.hid (H37.out.step b3)
  clear H37
  have H46 := Lib.hid (H38.out.step b3)
  clear H38
  have H47 := Lib.hid (H39.out.step b3)
  clear H39
  have H48 := Lib.hid (H40.out.step b3)
  clear H40
  have H49 := Lib.hid (keep2 b3 H41.out)
  clear H41
  clear b3
  have hu2 := pci_of (hu1.at (by omega))
  clear hu1
  obtain ⟨xa1, xc1, rfl, -, -⟩ : ∃ (a : Option Addr) (c : Nat), u1v = .slice a l1.length c ∧ True ∧ True := by
    obtain ⟨a, c, e, -⟩ := hu2
    exact ⟨a, c, e, trivial, trivial⟩
  replace hn1 := Lib.hid hn1
  have H50 := Lib.hid (hu2)
  clear hu2
  have H51 := Lib.hid (Cs.newB H49.out (u3.heap.size) #[.int .i64 M1.v, .int .i64 M1.c, .int .i64 M1.s, .int .i64 M1.r, .int .i64 M1.t] 24 (by simp))
  have H52 := Lib.hid (H42.out.step (al _ (.cells #[.int .i64 M1.v, .int .i64 M1.c, .int .i64 M1.s, .int .i64 M1.r, .int .i64 M1.t] 24)))
  clear H42
  have H53 := Lib.hid (H43.out.step (al _ (.cells #[.int .i64 M1.v, .int .i64 M1.c, .int .i64 M1.s, .int .i64 M1.r, .int .i64 M1.t] 24)))
  clear H43
  have H54 := Lib.hid (H44.out.step (al _ (.cells #[.int .i64 M1.v, .int .i64 M1.c, .int .i64 M1.s, .int .i64 M1.r, .int .i64 M1.t] 24)))
  clear H44
  have H55 := Lib.hid (H45.out.step (al _ (.cells #[.int .i64 M1.v, .int .i64 M1.c, .int .i64 M1.s, .int .i64 M1.r, .int .i64 M1.t] 24)))
  clear H45
  have H56 := Lib.hid (H46.out.step (al _ (.cells #[.int .i64 M1.v, .int .i64 M1.c, .int .i64 M1.s, .int .i64 M1.r, .int .i64 M1.t] 24)))
  clear H46
  have H57 := Lib.hid (H47.out.step (al _ (.cells #[.int .i64 M1.v, .int .i64 M1.c, .int .i64 M1.s, .int .i64 M1.r, .int .i64 M1.t] 24)))
  clear H47
  have H58 := Lib.hid (H48.out.step (al _ (.cells #[.int .i64 M1.v, .int .i64 M1.c, .int .i64 M1.s, .int .i64 M1.r, .int .i64 M1.t] 24)))
  clear H48
  have H59 := Lib.hid (H50.out.step (al _ (.cells #[.int .i64 M1.v, .int .i64 M1.c, .int .i64 M1.s, .int .i64 M1.r, .int .i64 M1.t] 24)))
  clear H50
  have H60 := Lib.hid (keep2 (al _ (.cells #[.int .i64 M1.v, .int .i64 M1.c, .int .i64 M1.s, .int .i64 M1.r, .int .i64 M1.t] 24)) H49.out)
  clear H49
  go_wp2_with fail
  refine (rsplit_any key ver s va vc D _ H52.out (by have := hL.out; omega) hcp.out hea.out hM1.out hl1.out).mono ?_
  rintro e u4 ⟨u2v, rfl, hu2, b4⟩
  have H61 := Lib.hid (H52.out.step b4)
  clear H52
  have H62 := Lib.hid (H53.out.step b4)
  clear H53
  have H63 := Lib.hid (H54.out.step b4)
  clear H54
  have H64 := Lib.hid (H55.out.step b4)
  clear H55
  have H65 := Lib.hid (H56.out.step b4)
  clear H56
  have H66 := Lib.hid (H57.out.step b4)
  clear H57
  have H67 := Lib.hid (H58.out.step b4)
  clear H58
  have H68 := Lib.hid (H59.out.step b4)
  clear H59
  have H69 := Lib.hid (H51.out.step b4)
  clear H51
  have H70 := Lib.hid (keep2 b4 H60.out)
  clear H60
  clear b4
  obtain ⟨xa2, xc2, rfl, -, -⟩ : ∃ (a : Option Addr) (c : Nat), u2v = .slice a l1.length c ∧ True ∧ True := by
    obtain ⟨a, c, e, -⟩ := hu2
    exact ⟨a, c, e, trivial, trivial⟩
  have H71 := Lib.hid (hu2)
  clear hu2
  have H72 := Lib.hid (Cs.newB H70.out (u4.heap.size) #[.int .i64 M1.v, .int .i64 M1.c, .int .i64 M1.s, .int .i64 M1.r, .int .i64 M1.t] 24 (by simp))
  have H73 := Lib.hid (H61.out.step (al _ (.cells #[.int .i64 M1.v, .int .i64 M1.c, .int .i64 M1.s, .int .i64 M1.r, .int .i64 M1.t] 24)))
  clear H61
  have H74 := Lib.hid (H62.out.step (al _ (.cells #[.int .i64 M1.v, .int .i64 M1.c, .int .i64 M1.s, .int .i64 M1.r, .int .i64 M1.t] 24)))
  clear H62
  have H75 := Lib.hid (H63.out.step (al _ (.cells #[.int .i64 M1.v, .int .i64 M1.c, .int .i64 M1.s, .int .i64 M1.r, .int .i64 M1.t] 24)))
  clear H63
  have H76 := Lib.hid (H64.out.step (al _ (.cells #[.int .i64 M1.v, .int .i64 M1.c, .int .i64 M1.s, .int .i64 M1.r, .int .i64 M1.t] 24)))
  clear H64
  have H77 := Lib.hid (H65.out.step (al _ (.cells #[.int .i64 M1.v, .int .i64 M1.c, .int .i64 M1.s, .int .i64 M1.r, .int .i64 M1.t] 24)))
  clear H65
  have H78 := Lib.hid (H66.out.step (al _ (.cells #[.int .i64 M1.v, .int .i64 M1.c, .int .i64 M1.s, .int .i64 M1.r, .int .i64 M1.t] 24)))
  clear H66
  have H79 := Lib.hid (H67.out.step (al _ (.cells #[.int .i64 M1.v, .int .i64 M1.c, .int .i64 M1.s, .int .i64 M1.r, .int .i64 M1.t] 24)))
  clear H67
  have H80 := Lib.hid (H68.out.step (al _ (.cells #[.int .i64 M1.v, .int .i64 M1.c, .int .i64 M1.s, .int .i64 M1.r, .int .i64 M1.t] 24)))
  clear H68
  have H81 := Lib.hid (H69.out.step (al _ (.cells #[.int .i64 M1.v, .int .i64 M1.c, .int .i64 M1.s, .int .i64 M1.r, .int .i64 M1.t] 24)))
  clear H69
  have H82 := Lib.hid (H71.out.step (al _ (.cells #[.int .i64 M1.v, .int .i64 M1.c, .int .i64 M1.s, .int .i64 M1.r, .int .i64 M1.t] 24)))
  clear H71
  have H83 := Lib.hid (keep2 (al _ (.cells #[.int .i64 M1.v, .int .i64 M1.c, .int .i64 M1.s, .int .i64 M1.r, .int .i64 M1.t] 24)) H70.out)
  clear H70
  have xq0 := H77.out.c 0 rfl
  have xq1 := H77.out.c 1 rfl
  have xq2 := H77.out.c 2 rfl
  have xq3 := H77.out.c 3 rfl
  have xq4 := H77.out.c 4 rfl
  have zq := H77.out.2.2
  go_wp2_with fail
  obtain ⟨eb, heb⟩ : ∃ z9, bgE key ver q = z9 := ⟨_, rfl⟩
  replace heb := Lib.hid heb
  obtain ⟨M2, hM2⟩ : ∃ z9, bgM eb q = z9 := ⟨_, rfl⟩
  replace hM2 := Lib.hid hM2
  obtain ⟨L2, hL2⟩ : ∃ z9, bgL eb q = z9 := ⟨_, rfl⟩
  replace hL2 := Lib.hid hL2
  refine (begin_own key ver q heb.out hM2.out hL2.out _).mono ?_
  rintro e u5 ⟨bv, rfl, ⟨hh, -, -⟩, b5⟩
  clear xq0 xq1 xq2 xq3 xq4 zq
  have H84 := Lib.hid (H73.out.step b5)
  clear H73
  have H85 := Lib.hid (H74.out.step b5)
  clear H74
  have H86 := Lib.hid (H75.out.step b5)
  clear H75
  have H87 := Lib.hid (H76.out.step b5)
  clear H76
  have H88 := Lib.hid (H77.out.step b5)
  clear H77
  have H89 := Lib.hid (H78.out.step b5)
  clear H78
  have H90 := Lib.hid (H79.out.step b5)
  clear H79
  have H91 := Lib.hid (H80.out.step b5)
  clear H80
  have H92 := Lib.hid (H81.out.step b5)
  clear H81
  have H93 := Lib.hid (H82.out.step b5)
  clear H82
  have H94 := Lib.hid (H72.out.step b5)
  clear H72
  have H95 := Lib.hid (keep2 b5 H83.out)
  clear H83
  clear b5
  obtain ⟨bva, bvc, rfl, -, -⟩ : ∃ (a : Option Addr) (c : Nat), bv = .slice a L2.length c ∧ True ∧ True := by
    obtain ⟨a, c, e, -⟩ := hh
    exact ⟨a, c, e, trivial, trivial⟩
  have H96 := Lib.hid (hh)
  clear hh
  have H97 := Lib.hid (Cs.newB H95.out (u5.heap.size) #[.int .i64 M2.v, .int .i64 M2.c, .int .i64 M2.s, .int .i64 M2.r, .int .i64 M2.t, .slice bva L2.length bvc] 27 (by simp))
  have H98 := Lib.hid (H84.out.step (al _ (.cells #[.int .i64 M2.v, .int .i64 M2.c, .int .i64 M2.s, .int .i64 M2.r, .int .i64 M2.t, .slice bva L2.length bvc] 27)))
  clear H84
  have H99 := Lib.hid (H85.out.step (al _ (.cells #[.int .i64 M2.v, .int .i64 M2.c, .int .i64 M2.s, .int .i64 M2.r, .int .i64 M2.t, .slice bva L2.length bvc] 27)))
  clear H85
  have H100 := Lib.hid (H86.out.step (al _ (.cells #[.int .i64 M2.v, .int .i64 M2.c, .int .i64 M2.s, .int .i64 M2.r, .int .i64 M2.t, .slice bva L2.length bvc] 27)))
  clear H86
  have H101 := Lib.hid (H87.out.step (al _ (.cells #[.int .i64 M2.v, .int .i64 M2.c, .int .i64 M2.s, .int .i64 M2.r, .int .i64 M2.t, .slice bva L2.length bvc] 27)))
  clear H87
  have H102 := Lib.hid (H88.out.step (al _ (.cells #[.int .i64 M2.v, .int .i64 M2.c, .int .i64 M2.s, .int .i64 M2.r, .int .i64 M2.t, .slice bva L2.length bvc] 27)))
  clear H88
  have H103 := Lib.hid (H89.out.step (al _ (.cells #[.int .i64 M2.v, .int .i64 M2.c, .int .i64 M2.s, .int .i64 M2.r, .int .i64 M2.t, .slice bva L2.length bvc] 27)))
  clear H89
  have H104 := Lib.hid (H90.out.step (al _ (.cells #[.int .i64 M2.v, .int .i64 M2.c, .int .i64 M2.s, .int .i64 M2.r, .int .i64 M2.t, .slice bva L2.length bvc] 27)))
  clear H90
  have H105 := Lib.hid (H91.out.step (al _ (.cells #[.int .i64 M2.v, .int .i64 M2.c, .int .i64 M2.s, .int .i64 M2.r, .int .i64 M2.t, .slice bva L2.length bvc] 27)))
  clear H91
  have H106 := Lib.hid (H92.out.step (al _ (.cells #[.int .i64 M2.v, .int .i64 M2.c, .int .i64 M2.s, .int .i64 M2.r, .int .i64 M2.t, .slice bva L2.length bvc] 27)))
  clear H92
  have H107 := Lib.hid (H93.out.step (al _ (.cells #[.int .i64 M2.v, .int .i64 M2.c, .int .i64 M2.s, .int .i64 M2.r, .int .i64 M2.t, .slice bva L2.length bvc] 27)))
  clear H93
  have H108 := Lib.hid (H94.out.step (al _ (.cells #[.int .i64 M2.v, .int .i64 M2.c, .int .i64 M2.s, .int .i64 M2.r, .int .i64 M2.t, .slice bva L2.length bvc] 27)))
  clear H94
  have H109 := Lib.hid (H96.out.step (al _ (.cells #[.int .i64 M2.v, .int .i64 M2.c, .int .i64 M2.s, .int .i64 M2.r, .int .i64 M2.t, .slice bva L2.length bvc] 27)))
  clear H96
  have H110 := Lib.hid (keep2 (al _ (.cells #[.int .i64 M2.v, .int .i64 M2.c, .int .i64 M2.s, .int .i64 M2.r, .int .i64 M2.t, .slice bva L2.length bvc] 27)) H95.out)
  clear H95
  have xq0 := H102.out.c 0 rfl
  have xq1 := H102.out.c 1 rfl
  have xq2 := H102.out.c 2 rfl
  have xq3 := H102.out.c 3 rfl
  have xq4 := H102.out.c 4 rfl
  have zq := H102.out.2.2
  go_wp2_with fail
  refine (rbegin_own key ver q heb.out hM2.out hL2.out _).mono ?_
  rintro e u6 ⟨cv, rfl, ⟨hh, -, -⟩, b6⟩
  clear xq0 xq1 xq2 xq3 xq4 zq
  have H111 := Lib.hid (H98.out.step b6)
  clear H98
  have H112 := Lib.hid (H99.out.step b6)
  clear H99
  have H113 := Lib.hid (H100.out.step b6)
  clear H100
  have H114 := Lib.hid (H101.out.step b6)
  clear H101
  have H115 := Lib.hid (H102.out.step b6)
  clear H102
  have H116 := Lib.hid (H103.out.step b6)
  clear H103
  have H117 := Lib.hid (H104.out.step b6)
  clear H104
  have H118 := Lib.hid (H105.out.step b6)
  clear H105
  have H119 := Lib.hid (H106.out.step b6)
  clear H106
  have H120 := Lib.hid (H107.out.step b6)
  clear H107
  have H121 := Lib.hid (H108.out.step b6)
  clear H108
  have H122 := Lib.hid (H109.out.step b6)
  clear H109
  have H123 := Lib.hid (H97.out.step b6)
  clear H97
  have H124 := Lib.hid (keep2 b6 H110.out)
  clear H110
  clear b6
  obtain ⟨cva, cvc, rfl, -, -⟩ : ∃ (a : Option Addr) (c : Nat), cv = .slice a L2.length c ∧ True ∧ True := by
    obtain ⟨a, c, e, -⟩ := hh
    exact ⟨a, c, e, trivial, trivial⟩
  have H125 := Lib.hid (hh)
  clear hh
  have H126 := Lib.hid (Cs.newB H124.out (u6.heap.size) #[.int .i64 M2.v, .int .i64 M2.c, .int .i64 M2.s, .int .i64 M2.r, .int .i64 M2.t, .slice cva L2.length cvc] 27 (by simp))
  have H127 := Lib.hid (H111.out.step (al _ (.cells #[.int .i64 M2.v, .int .i64 M2.c, .int .i64 M2.s, .int .i64 M2.r, .int .i64 M2.t, .slice cva L2.length cvc] 27)))
  clear H111
  have H128 := Lib.hid (H112.out.step (al _ (.cells #[.int .i64 M2.v, .int .i64 M2.c, .int .i64 M2.s, .int .i64 M2.r, .int .i64 M2.t, .slice cva L2.length cvc] 27)))
  clear H112
  have H129 := Lib.hid (H113.out.step (al _ (.cells #[.int .i64 M2.v, .int .i64 M2.c, .int .i64 M2.s, .int .i64 M2.r, .int .i64 M2.t, .slice cva L2.length cvc] 27)))
  clear H113
  have H130 := Lib.hid (H114.out.step (al _ (.cells #[.int .i64 M2.v, .int .i64 M2.c, .int .i64 M2.s, .int .i64 M2.r, .int .i64 M2.t, .slice cva L2.length cvc] 27)))
  clear H114
  have H131 := Lib.hid (H115.out.step (al _ (.cells #[.int .i64 M2.v, .int .i64 M2.c, .int .i64 M2.s, .int .i64 M2.r, .int .i64 M2.t, .slice cva L2.length cvc] 27)))
  clear H115
  have H132 := Lib.hid (H116.out.step (al _ (.cells #[.int .i64 M2.v, .int .i64 M2.c, .int .i64 M2.s, .int .i64 M2.r, .int .i64 M2.t, .slice cva L2.length cvc] 27)))
  clear H116
  have H133 := Lib.hid (H117.out.step (al _ (.cells #[.int .i64 M2.v, .int .i64 M2.c, .int .i64 M2.s, .int .i64 M2.r, .int .i64 M2.t, .slice cva L2.length cvc] 27)))
  clear H117
  have H134 := Lib.hid (H118.out.step (al _ (.cells #[.int .i64 M2.v, .int .i64 M2.c, .int .i64 M2.s, .int .i64 M2.r, .int .i64 M2.t, .slice cva L2.length cvc] 27)))
  clear H118
  have H135 := Lib.hid (H119.out.step (al _ (.cells #[.int .i64 M2.v, .int .i64 M2.c, .int .i64 M2.s, .int .i64 M2.r, .int .i64 M2.t, .slice cva L2.length cvc] 27)))
  clear H119
  have H136 := Lib.hid (H120.out.step (al _ (.cells #[.int .i64 M2.v, .int .i64 M2.c, .int .i64 M2.s, .int .i64 M2.r, .int .i64 M2.t, .slice cva L2.length cvc] 27)))
  clear H120
  have H137 := Lib.hid (H121.out.step (al _ (.cells #[.int .i64 M2.v, .int .i64 M2.c, .int .i64 M2.s, .int .i64 M2.r, .int .i64 M2.t, .slice cva L2.length cvc] 27)))
  clear H121
  have H138 := Lib.hid (H122.out.step (al _ (.cells #[.int .i64 M2.v, .int .i64 M2.c, .int .i64 M2.s, .int .i64 M2.r, .int .i64 M2.t, .slice cva L2.length cvc] 27)))
  clear H122
  have H139 := Lib.hid (H123.out.step (al _ (.cells #[.int .i64 M2.v, .int .i64 M2.c, .int .i64 M2.s, .int .i64 M2.r, .int .i64 M2.t, .slice cva L2.length cvc] 27)))
  clear H123
  have H140 := Lib.hid (H125.out.step (al _ (.cells #[.int .i64 M2.v, .int .i64 M2.c, .int .i64 M2.s, .int .i64 M2.r, .int .i64 M2.t, .slice cva L2.length cvc] 27)))
  clear H125
  have H141 := Lib.hid (keep2 (al _ (.cells #[.int .i64 M2.v, .int .i64 M2.c, .int .i64 M2.s, .int .i64 M2.r, .int .i64 M2.t, .slice cva L2.length cvc] 27)) H124.out)
  clear H124
  obtain ⟨ec, hec⟩ : ∃ z9, adE m L i d p = z9 := ⟨_, rfl⟩
  replace hec := Lib.hid hec
  obtain ⟨L3, hL3⟩ : ∃ z9, adL m L i d p = z9 := ⟨_, rfl⟩
  replace hL3 := Lib.hid hL3
  have HRA := Lib.hid (show raL m L i d p = L3 by rw [← al_ra]; exact hL3.out)
  have xs0 := H132.out.c 0 rfl
  have xs1 := H132.out.c 1 rfl
  have xs2 := H132.out.c 2 rfl
  have xs3 := H132.out.c 3 rfl
  have xs4 := H132.out.c 4 rfl
  have xs5 := H132.out.c 5 rfl
  have zs := H132.out.2.2
  have xp0 := H133.out.c 0 rfl
  have xp1 := H133.out.c 1 rfl
  have xp2 := H133.out.c 2 rfl
  have zp := H133.out.2.2
  go_wp2_with fail
  refine (add_any m i _ L _ d _ p _ H128.out H129.out H130.out (by have := HFP.out.2.1; omega) (fun x hx => by have := HFP.out.1 x hx; omega) (by have := HFP.out.2.2.1; omega) hec.out hL3.out).mono ?_
  rintro e u7 ⟨tv, n9, rfl, -, ho, b7⟩
  clear xs0 xs1 xs2 xs3 xs4 xs5 zs xp0 xp1 xp2 zp
  have H142 := Lib.hid (H127.out.step b7)
  clear H127
  have H143 := Lib.hid (H128.out.step b7)
  clear H128
  have H144 := Lib.hid (H129.out.step b7)
  clear H129
  have H145 := Lib.hid (H130.out.step b7)
  clear H130
  have H146 := Lib.hid (H131.out.step b7)
  clear H131
  have H147 := Lib.hid (H132.out.step b7)
  clear H132
  have H148 := Lib.hid (H133.out.step b7)
  clear H133
  have H149 := Lib.hid (H134.out.step b7)
  clear H134
  have H150 := Lib.hid (H135.out.step b7)
  clear H135
  have H151 := Lib.hid (H136.out.step b7)
  clear H136
  have H152 := Lib.hid (H137.out.step b7)
  clear H137
  have H153 := Lib.hid (H138.out.step b7)
  clear H138
  have H154 := Lib.hid (H139.out.step b7)
  clear H139
  have H155 := Lib.hid (H140.out.step b7)
  clear H140
  have H156 := Lib.hid (H126.out.step b7)
  clear H126
  have H157 := Lib.hid (keep2 b7 H141.out)
  clear H141
  clear b7
  have hh := ho.rows
  clear ho
  obtain ⟨tva, tvc, rfl, -, -⟩ : ∃ (a : Option Addr) (c : Nat), tv = .slice a L3.length c ∧ True ∧ True := by
    obtain ⟨a, c, e, -⟩ := hh
    exact ⟨a, c, e, trivial, trivial⟩
  have H158 := Lib.hid (hh)
  clear hh
  have H159 := Lib.hid (Cs.newB H157.out (u7.heap.size) #[.int .i64 m.v, .int .i64 m.c, .int .i64 m.s, .int .i64 m.r, .int .i64 m.t, .slice tva L3.length tvc] 27 (by simp))
  have H160 := Lib.hid (H142.out.step (al _ (.cells #[.int .i64 m.v, .int .i64 m.c, .int .i64 m.s, .int .i64 m.r, .int .i64 m.t, .slice tva L3.length tvc] 27)))
  clear H142
  have H161 := Lib.hid (H143.out.step (al _ (.cells #[.int .i64 m.v, .int .i64 m.c, .int .i64 m.s, .int .i64 m.r, .int .i64 m.t, .slice tva L3.length tvc] 27)))
  clear H143
  have H162 := Lib.hid (H144.out.step (al _ (.cells #[.int .i64 m.v, .int .i64 m.c, .int .i64 m.s, .int .i64 m.r, .int .i64 m.t, .slice tva L3.length tvc] 27)))
  clear H144
  have H163 := Lib.hid (H145.out.step (al _ (.cells #[.int .i64 m.v, .int .i64 m.c, .int .i64 m.s, .int .i64 m.r, .int .i64 m.t, .slice tva L3.length tvc] 27)))
  clear H145
  have H164 := Lib.hid (H146.out.step (al _ (.cells #[.int .i64 m.v, .int .i64 m.c, .int .i64 m.s, .int .i64 m.r, .int .i64 m.t, .slice tva L3.length tvc] 27)))
  clear H146
  have H165 := Lib.hid (H147.out.step (al _ (.cells #[.int .i64 m.v, .int .i64 m.c, .int .i64 m.s, .int .i64 m.r, .int .i64 m.t, .slice tva L3.length tvc] 27)))
  clear H147
  have H166 := Lib.hid (H148.out.step (al _ (.cells #[.int .i64 m.v, .int .i64 m.c, .int .i64 m.s, .int .i64 m.r, .int .i64 m.t, .slice tva L3.length tvc] 27)))
  clear H148
  have H167 := Lib.hid (H149.out.step (al _ (.cells #[.int .i64 m.v, .int .i64 m.c, .int .i64 m.s, .int .i64 m.r, .int .i64 m.t, .slice tva L3.length tvc] 27)))
  clear H149
  have H168 := Lib.hid (H150.out.step (al _ (.cells #[.int .i64 m.v, .int .i64 m.c, .int .i64 m.s, .int .i64 m.r, .int .i64 m.t, .slice tva L3.length tvc] 27)))
  clear H150
  have H169 := Lib.hid (H151.out.step (al _ (.cells #[.int .i64 m.v, .int .i64 m.c, .int .i64 m.s, .int .i64 m.r, .int .i64 m.t, .slice tva L3.length tvc] 27)))
  clear H151
  have H170 := Lib.hid (H152.out.step (al _ (.cells #[.int .i64 m.v, .int .i64 m.c, .int .i64 m.s, .int .i64 m.r, .int .i64 m.t, .slice tva L3.length tvc] 27)))
  clear H152
  have H171 := Lib.hid (H153.out.step (al _ (.cells #[.int .i64 m.v, .int .i64 m.c, .int .i64 m.s, .int .i64 m.r, .int .i64 m.t, .slice tva L3.length tvc] 27)))
  clear H153
  have H172 := Lib.hid (H154.out.step (al _ (.cells #[.int .i64 m.v, .int .i64 m.c, .int .i64 m.s, .int .i64 m.r, .int .i64 m.t, .slice tva L3.length tvc] 27)))
  clear H154
  have H173 := Lib.hid (H155.out.step (al _ (.cells #[.int .i64 m.v, .int .i64 m.c, .int .i64 m.s, .int .i64 m.r, .int .i64 m.t, .slice tva L3.length tvc] 27)))
  clear H155
  have H174 := Lib.hid (H156.out.step (al _ (.cells #[.int .i64 m.v, .int .i64 m.c, .int .i64 m.s, .int .i64 m.r, .int .i64 m.t, .slice tva L3.length tvc] 27)))
  clear H156
  have H175 := Lib.hid (H158.out.step (al _ (.cells #[.int .i64 m.v, .int .i64 m.c, .int .i64 m.s, .int .i64 m.r, .int .i64 m.t, .slice tva L3.length tvc] 27)))
  clear H158
  have H176 := Lib.hid (keep2 (al _ (.cells #[.int .i64 m.v, .int .i64 m.c, .int .i64 m.s, .int .i64 m.r, .int .i64 m.t, .slice tva L3.length tvc] 27)) H157.out)
  clear H157
  have xs0 := H165.out.c 0 rfl
  have xs1 := H165.out.c 1 rfl
  have xs2 := H165.out.c 2 rfl
  have xs3 := H165.out.c 3 rfl
  have xs4 := H165.out.c 4 rfl
  have xs5 := H165.out.c 5 rfl
  have zs := H165.out.2.2
  have xp0 := H166.out.c 0 rfl
  have xp1 := H166.out.c 1 rfl
  have xp2 := H166.out.c 2 rfl
  have zp := H166.out.2.2
  go_wp2_with fail
  refine (radd_any m i _ L _ d _ p _ H161.out H162.out H163.out.1 (by have := HFP.out.2.1; omega) (fun x hx => by have := HFP.out.1 x hx; omega) (by have := HFP.out.2.2.1; omega) (by have := HFP.out.2.2.2; omega) hec.out HRA.out).mono ?_
  rintro e u8 ⟨uv, rfl, hh, b8⟩
  clear xs0 xs1 xs2 xs3 xs4 xs5 zs xp0 xp1 xp2 zp
  have H177 := Lib.hid (H160.out.step b8)
  clear H160
  have H178 := Lib.hid (H161.out.step b8)
  clear H161
  have H179 := Lib.hid (H162.out.step b8)
  clear H162
  have H180 := Lib.hid (H163.out.step b8)
  clear H163
  have H181 := Lib.hid (H164.out.step b8)
  clear H164
  have H182 := Lib.hid (H165.out.step b8)
  clear H165
  have H183 := Lib.hid (H166.out.step b8)
  clear H166
  have H184 := Lib.hid (H167.out.step b8)
  clear H167
  have H185 := Lib.hid (H168.out.step b8)
  clear H168
  have H186 := Lib.hid (H169.out.step b8)
  clear H169
  have H187 := Lib.hid (H170.out.step b8)
  clear H170
  have H188 := Lib.hid (H171.out.step b8)
  clear H171
  have H189 := Lib.hid (H172.out.step b8)
  clear H172
  have H190 := Lib.hid (H173.out.step b8)
  clear H173
  have H191 := Lib.hid (H174.out.step b8)
  clear H174
  have H192 := Lib.hid (H175.out.step b8)
  clear H175
  have H193 := Lib.hid (H159.out.step b8)
  clear H159
  have H194 := Lib.hid (keep2 b8 H176.out)
  clear H176
  clear b8
  obtain ⟨uva, uvc, rfl, -, -⟩ : ∃ (a : Option Addr) (c : Nat), uv = .slice a L3.length c ∧ True ∧ True := by
    obtain ⟨a, c, e, -⟩ := hh
    exact ⟨a, c, e, trivial, trivial⟩
  have H195 := Lib.hid (hh)
  clear hh
  have H196 := Lib.hid (Cs.newB H194.out (u8.heap.size) #[.int .i64 m.v, .int .i64 m.c, .int .i64 m.s, .int .i64 m.r, .int .i64 m.t, .slice uva L3.length uvc] 27 (by simp))
  have H197 := Lib.hid (H177.out.step (al _ (.cells #[.int .i64 m.v, .int .i64 m.c, .int .i64 m.s, .int .i64 m.r, .int .i64 m.t, .slice uva L3.length uvc] 27)))
  clear H177
  have H198 := Lib.hid (H178.out.step (al _ (.cells #[.int .i64 m.v, .int .i64 m.c, .int .i64 m.s, .int .i64 m.r, .int .i64 m.t, .slice uva L3.length uvc] 27)))
  clear H178
  have H199 := Lib.hid (H179.out.step (al _ (.cells #[.int .i64 m.v, .int .i64 m.c, .int .i64 m.s, .int .i64 m.r, .int .i64 m.t, .slice uva L3.length uvc] 27)))
  clear H179
  have H200 := Lib.hid (H180.out.step (al _ (.cells #[.int .i64 m.v, .int .i64 m.c, .int .i64 m.s, .int .i64 m.r, .int .i64 m.t, .slice uva L3.length uvc] 27)))
  clear H180
  have H201 := Lib.hid (H181.out.step (al _ (.cells #[.int .i64 m.v, .int .i64 m.c, .int .i64 m.s, .int .i64 m.r, .int .i64 m.t, .slice uva L3.length uvc] 27)))
  clear H181
  have H202 := Lib.hid (H182.out.step (al _ (.cells #[.int .i64 m.v, .int .i64 m.c, .int .i64 m.s, .int .i64 m.r, .int .i64 m.t, .slice uva L3.length uvc] 27)))
  clear H182
  have H203 := Lib.hid (H183.out.step (al _ (.cells #[.int .i64 m.v, .int .i64 m.c, .int .i64 m.s, .int .i64 m.r, .int .i64 m.t, .slice uva L3.length uvc] 27)))
  clear H183
  have H204 := Lib.hid (H184.out.step (al _ (.cells #[.int .i64 m.v, .int .i64 m.c, .int .i64 m.s, .int .i64 m.r, .int .i64 m.t, .slice uva L3.length uvc] 27)))
  clear H184
  have H205 := Lib.hid (H185.out.step (al _ (.cells #[.int .i64 m.v, .int .i64 m.c, .int .i64 m.s, .int .i64 m.r, .int .i64 m.t, .slice uva L3.length uvc] 27)))
  clear H185
  have H206 := Lib.hid (H186.out.step (al _ (.cells #[.int .i64 m.v, .int .i64 m.c, .int .i64 m.s, .int .i64 m.r, .int .i64 m.t, .slice uva L3.length uvc] 27)))
  clear H186
  have H207 := Lib.hid (H187.out.step (al _ (.cells #[.int .i64 m.v, .int .i64 m.c, .int .i64 m.s, .int .i64 m.r, .int .i64 m.t, .slice uva L3.length uvc] 27)))
  clear H187
  have H208 := Lib.hid (H188.out.step (al _ (.cells #[.int .i64 m.v, .int .i64 m.c, .int .i64 m.s, .int .i64 m.r, .int .i64 m.t, .slice uva L3.length uvc] 27)))
  clear H188
  have H209 := Lib.hid (H189.out.step (al _ (.cells #[.int .i64 m.v, .int .i64 m.c, .int .i64 m.s, .int .i64 m.r, .int .i64 m.t, .slice uva L3.length uvc] 27)))
  clear H189
  have H210 := Lib.hid (H190.out.step (al _ (.cells #[.int .i64 m.v, .int .i64 m.c, .int .i64 m.s, .int .i64 m.r, .int .i64 m.t, .slice uva L3.length uvc] 27)))
  clear H190
  have H211 := Lib.hid (H191.out.step (al _ (.cells #[.int .i64 m.v, .int .i64 m.c, .int .i64 m.s, .int .i64 m.r, .int .i64 m.t, .slice uva L3.length uvc] 27)))
  clear H191
  have H212 := Lib.hid (H192.out.step (al _ (.cells #[.int .i64 m.v, .int .i64 m.c, .int .i64 m.s, .int .i64 m.r, .int .i64 m.t, .slice uva L3.length uvc] 27)))
  clear H192
  have H213 := Lib.hid (H193.out.step (al _ (.cells #[.int .i64 m.v, .int .i64 m.c, .int .i64 m.s, .int .i64 m.r, .int .i64 m.t, .slice uva L3.length uvc] 27)))
  clear H193
  have H214 := Lib.hid (H195.out.step (al _ (.cells #[.int .i64 m.v, .int .i64 m.c, .int .i64 m.s, .int .i64 m.r, .int .i64 m.t, .slice uva L3.length uvc] 27)))
  clear H195
  have H215 := Lib.hid (keep2 (al _ (.cells #[.int .i64 m.v, .int .i64 m.c, .int .i64 m.s, .int .i64 m.r, .int .i64 m.t, .slice uva L3.length uvc] 27)) H194.out)
  clear H194
  have HF7 := Lib.hid (show L.flatten.length ≤ 5000 by have h1 := flat_le L HFP.out.1; have h2 := HFP.out.2.1; omega)
  obtain ⟨ez, hez⟩ : ∃ z9, joE m L = z9 := ⟨_, rfl⟩
  replace hez := Lib.hid hez
  obtain ⟨D4, hD4⟩ : ∃ z9, joD ez L = z9 := ⟨_, rfl⟩
  replace hD4 := Lib.hid hD4
  have xs0 := H202.out.c 0 rfl
  have xs1 := H202.out.c 1 rfl
  have xs2 := H202.out.c 2 rfl
  have xs3 := H202.out.c 3 rfl
  have xs4 := H202.out.c 4 rfl
  have xs5 := H202.out.c 5 rfl
  have zs := H202.out.2.2
  go_wp2_with fail
  refine (join_any m _ L _ H198.out (by have := HFP.out.2.1; omega) (fun x hx => by have := HFP.out.1 x hx; omega) HF7.out hez.out hD4.out).mono ?_
  rintro e u9 ⟨jv, rfl, hh, b9⟩
  clear xs0 xs1 xs2 xs3 xs4 xs5 zs
  have H216 := Lib.hid (H197.out.step b9)
  clear H197
  have H217 := Lib.hid (H198.out.step b9)
  clear H198
  have H218 := Lib.hid (H199.out.step b9)
  clear H199
  have H219 := Lib.hid (H200.out.step b9)
  clear H200
  have H220 := Lib.hid (H201.out.step b9)
  clear H201
  have H221 := Lib.hid (H202.out.step b9)
  clear H202
  have H222 := Lib.hid (H203.out.step b9)
  clear H203
  have H223 := Lib.hid (H204.out.step b9)
  clear H204
  have H224 := Lib.hid (H205.out.step b9)
  clear H205
  have H225 := Lib.hid (H206.out.step b9)
  clear H206
  have H226 := Lib.hid (H207.out.step b9)
  clear H207
  have H227 := Lib.hid (H208.out.step b9)
  clear H208
  have H228 := Lib.hid (H209.out.step b9)
  clear H209
  have H229 := Lib.hid (H210.out.step b9)
  clear H210
  have H230 := Lib.hid (H211.out.step b9)
  clear H211
  have H231 := Lib.hid (H212.out.step b9)
  clear H212
  have H232 := Lib.hid (H213.out.step b9)
  clear H213
  have H233 := Lib.hid (H214.out.step b9)
  clear H214
  have H234 := Lib.hid (H196.out.step b9)
  clear H196
  have H235 := Lib.hid (keep2 b9 H215.out)
  clear H215
  clear b9
  obtain ⟨jva, jvc, rfl, -, -⟩ : ∃ (a : Option Addr) (c : Nat), jv = .slice a D4.length c ∧ True ∧ True := by
    obtain ⟨a, c, e, -⟩ := hh
    exact ⟨a, c, e, trivial, trivial⟩
  have H236 := Lib.hid (hh)
  clear hh
  have xs0 := H221.out.c 0 rfl
  have xs1 := H221.out.c 1 rfl
  have xs2 := H221.out.c 2 rfl
  have xs3 := H221.out.c 3 rfl
  have xs4 := H221.out.c 4 rfl
  have xs5 := H221.out.c 5 rfl
  have zs := H221.out.2.2
  go_wp2_with fail
  refine (rjoin_any m _ L _ H217.out (by have := HFP.out.2.1; omega) (fun x hx => by have := HFP.out.1 x hx; omega) HF7.out hez.out hD4.out).mono ?_
  rintro e u10 ⟨jw, rfl, hh, b10⟩
  clear xs0 xs1 xs2 xs3 xs4 xs5 zs
  have H237 := Lib.hid (H216.out.step b10)
  clear H216
  have H238 := Lib.hid (H217.out.step b10)
  clear H217
  have H239 := Lib.hid (H218.out.step b10)
  clear H218
  have H240 := Lib.hid (H219.out.step b10)
  clear H219
  have H241 := Lib.hid (H220.out.step b10)
  clear H220
  have H242 := Lib.hid (H221.out.step b10)
  clear H221
  have H243 := Lib.hid (H222.out.step b10)
  clear H222
  have H244 := Lib.hid (H223.out.step b10)
  clear H223
  have H245 := Lib.hid (H224.out.step b10)
  clear H224
  have H246 := Lib.hid (H225.out.step b10)
  clear H225
  have H247 := Lib.hid (H226.out.step b10)
  clear H226
  have H248 := Lib.hid (H227.out.step b10)
  clear H227
  have H249 := Lib.hid (H228.out.step b10)
  clear H228
  have H250 := Lib.hid (H229.out.step b10)
  clear H229
  have H251 := Lib.hid (H230.out.step b10)
  clear H230
  have H252 := Lib.hid (H231.out.step b10)
  clear H231
  have H253 := Lib.hid (H232.out.step b10)
  clear H232
  have H254 := Lib.hid (H233.out.step b10)
  clear H233
  have H255 := Lib.hid (H234.out.step b10)
  clear H234
  have H256 := Lib.hid (H236.out.step b10)
  clear H236
  have H257 := Lib.hid (keep2 b10 H235.out)
  clear H235
  clear b10
  obtain ⟨jwa, jwc, rfl, -, -⟩ : ∃ (a : Option Addr) (c : Nat), jw = .slice a D4.length c ∧ True ∧ True := by
    obtain ⟨a, c, e, -⟩ := hh
    exact ⟨a, c, e, trivial, trivial⟩
  have H258 := Lib.hid (hh)
  clear hh
  obtain ⟨UJ, hUJ⟩ : ∃ z9, u10 = z9 := ⟨_, rfl⟩
  rw [hUJ] at H237 H238 H239 H240 H241 H242 H243 H244 H245 H246 H247 H248 H249 H250 H251 H252 H253 H254 H255 H256 H258 H257 ⊢
  clear hUJ
  go_upto_region 12 with fail
  obtain ⟨lit, hlit⟩ : ∃ lit : (Nat → Value) → Act, lit = fun vs => { tmps := List.toArray (Value.int IntKind.i64 key :: Value.int IntKind.i64 ver :: Value.int IntKind.i64 s :: Value.slice va D.length vc :: Value.agg #[Value.int IntKind.i64 q.v, Value.int IntKind.i64 q.c, Value.int IntKind.i64 q.s, Value.int IntKind.i64 q.r, Value.int IntKind.i64 q.t] :: Value.agg #[Value.int IntKind.i64 m.v, Value.int IntKind.i64 m.c, Value.int IntKind.i64 m.s, Value.int IntKind.i64 m.r, Value.int IntKind.i64 m.t, Value.slice sa L.length sc] :: Value.agg #[Value.int IntKind.i64 i, Value.slice da d.length dc, Value.slice pa p.length pc] :: undef :: undef :: undef :: undef :: Value.pointer (some { block := w.heap.size, off := 0 }) :: Value.pointer (some { block := w.heap.size + 1, off := 0 }) :: Value.pointer (some { block := w.heap.size + 1 + 1, off := 0 }) :: vs 53 :: Value.bool true :: Value.pointer (some { block := u3.heap.size, off := 0 }) :: Value.slice xa1 l1.length xc1 :: Value.int IntKind.i64 ea :: Value.pointer (some { block := u4.heap.size, off := 0 }) :: Value.slice xa2 l1.length xc2 :: Value.int IntKind.i64 ea :: Value.pointer (some { block := u5.heap.size, off := 0 }) :: Value.int IntKind.i64 eb :: Value.pointer (some { block := u6.heap.size, off := 0 }) :: Value.int IntKind.i64 eb :: Value.pointer (some { block := u7.heap.size, off := 0 }) :: Value.int IntKind.i64 ec :: Value.pointer (some { block := u8.heap.size, off := 0 }) :: Value.int IntKind.i64 ec :: Value.slice jva D4.length jvc :: Value.int IntKind.i64 ez :: Value.slice jwa D4.length jwc :: Value.int IntKind.i64 ez :: Value.bool true :: Value.slice va D.length vc :: Value.int IntKind.i64 (D.length : Int) :: Value.bool false :: Value.bool false :: Value.agg #[Value.int IntKind.i64 m.v, Value.int IntKind.i64 m.c, Value.int IntKind.i64 m.s, Value.int IntKind.i64 m.r, Value.int IntKind.i64 m.t, Value.slice sa L.length sc] :: Value.agg #[Value.int IntKind.i64 i, Value.slice da d.length dc, Value.slice pa p.length pc] :: Value.bool true :: Value.bool false :: Value.bool false :: undef :: Value.tuple #[Value.agg #[Value.int IntKind.i64 M1.v, Value.int IntKind.i64 M1.c, Value.int IntKind.i64 M1.s, Value.int IntKind.i64 M1.r, Value.int IntKind.i64 M1.t], Value.slice xa1 l1.length xc1, Value.int IntKind.i64 ea] :: Value.int IntKind.i64 key :: Value.int IntKind.i64 ver :: Value.int IntKind.i64 s :: Value.slice va D.length vc :: Value.tuple #[Value.agg #[Value.int IntKind.i64 M1.v, Value.int IntKind.i64 M1.c, Value.int IntKind.i64 M1.s, Value.int IntKind.i64 M1.r, Value.int IntKind.i64 M1.t], Value.slice xa1 l1.length xc1, Value.int IntKind.i64 ea] :: Value.agg #[Value.int IntKind.i64 M1.v, Value.int IntKind.i64 M1.c, Value.int IntKind.i64 M1.s, Value.int IntKind.i64 M1.r, Value.int IntKind.i64 M1.t] :: Value.slice xa1 l1.length xc1 :: Value.int IntKind.i64 ea :: Value.tuple #[Value.agg #[Value.int IntKind.i64 M1.v, Value.int IntKind.i64 M1.c, Value.int IntKind.i64 M1.s, Value.int IntKind.i64 M1.r, Value.int IntKind.i64 M1.t], Value.slice xa2 l1.length xc2, Value.int IntKind.i64 ea] :: Value.int IntKind.i64 key :: Value.int IntKind.i64 ver :: Value.int IntKind.i64 s :: Value.slice va D.length vc :: Value.tuple #[Value.agg #[Value.int IntKind.i64 M1.v, Value.int IntKind.i64 M1.c, Value.int IntKind.i64 M1.s, Value.int IntKind.i64 M1.r, Value.int IntKind.i64 M1.t], Value.slice xa2 l1.length xc2, Value.int IntKind.i64 ea] :: Value.agg #[Value.int IntKind.i64 M1.v, Value.int IntKind.i64 M1.c, Value.int IntKind.i64 M1.s, Value.int IntKind.i64 M1.r, Value.int IntKind.i64 M1.t] :: Value.slice xa2 l1.length xc2 :: Value.int IntKind.i64 ea :: Value.tuple #[Value.agg #[Value.int IntKind.i64 M2.v, Value.int IntKind.i64 M2.c, Value.int IntKind.i64 M2.s, Value.int IntKind.i64 M2.r, Value.int IntKind.i64 M2.t, Value.slice bva L2.length bvc], Value.int IntKind.i64 eb] :: Value.int IntKind.i64 key :: Value.int IntKind.i64 ver :: Value.agg #[Value.int IntKind.i64 q.v, Value.int IntKind.i64 q.c, Value.int IntKind.i64 q.s, Value.int IntKind.i64 q.r, Value.int IntKind.i64 q.t] :: Value.tuple #[Value.agg #[Value.int IntKind.i64 M2.v, Value.int IntKind.i64 M2.c, Value.int IntKind.i64 M2.s, Value.int IntKind.i64 M2.r, Value.int IntKind.i64 M2.t, Value.slice bva L2.length bvc], Value.int IntKind.i64 eb] :: Value.agg #[Value.int IntKind.i64 M2.v, Value.int IntKind.i64 M2.c, Value.int IntKind.i64 M2.s, Value.int IntKind.i64 M2.r, Value.int IntKind.i64 M2.t, Value.slice bva L2.length bvc] :: Value.int IntKind.i64 eb :: Value.tuple #[Value.agg #[Value.int IntKind.i64 M2.v, Value.int IntKind.i64 M2.c, Value.int IntKind.i64 M2.s, Value.int IntKind.i64 M2.r, Value.int IntKind.i64 M2.t, Value.slice cva L2.length cvc], Value.int IntKind.i64 eb] :: Value.int IntKind.i64 key :: Value.int IntKind.i64 ver :: Value.agg #[Value.int IntKind.i64 q.v, Value.int IntKind.i64 q.c, Value.int IntKind.i64 q.s, Value.int IntKind.i64 q.r, Value.int IntKind.i64 q.t] :: Value.tuple #[Value.agg #[Value.int IntKind.i64 M2.v, Value.int IntKind.i64 M2.c, Value.int IntKind.i64 M2.s, Value.int IntKind.i64 M2.r, Value.int IntKind.i64 M2.t, Value.slice cva L2.length cvc], Value.int IntKind.i64 eb] :: Value.agg #[Value.int IntKind.i64 M2.v, Value.int IntKind.i64 M2.c, Value.int IntKind.i64 M2.s, Value.int IntKind.i64 M2.r, Value.int IntKind.i64 M2.t, Value.slice cva L2.length cvc] :: Value.int IntKind.i64 eb :: Value.tuple #[Value.agg #[Value.int IntKind.i64 m.v, Value.int IntKind.i64 m.c, Value.int IntKind.i64 m.s, Value.int IntKind.i64 m.r, Value.int IntKind.i64 m.t, Value.slice tva L3.length tvc], Value.int IntKind.i64 ec] :: Value.agg #[Value.int IntKind.i64 m.v, Value.int IntKind.i64 m.c, Value.int IntKind.i64 m.s, Value.int IntKind.i64 m.r, Value.int IntKind.i64 m.t, Value.slice sa L.length sc] :: Value.agg #[Value.int IntKind.i64 i, Value.slice da d.length dc, Value.slice pa p.length pc] :: Value.tuple #[Value.agg #[Value.int IntKind.i64 m.v, Value.int IntKind.i64 m.c, Value.int IntKind.i64 m.s, Value.int IntKind.i64 m.r, Value.int IntKind.i64 m.t, Value.slice tva L3.length tvc], Value.int IntKind.i64 ec] :: Value.agg #[Value.int IntKind.i64 m.v, Value.int IntKind.i64 m.c, Value.int IntKind.i64 m.s, Value.int IntKind.i64 m.r, Value.int IntKind.i64 m.t, Value.slice tva L3.length tvc] :: Value.int IntKind.i64 ec :: Value.tuple #[Value.agg #[Value.int IntKind.i64 m.v, Value.int IntKind.i64 m.c, Value.int IntKind.i64 m.s, Value.int IntKind.i64 m.r, Value.int IntKind.i64 m.t, Value.slice uva L3.length uvc], Value.int IntKind.i64 ec] :: Value.agg #[Value.int IntKind.i64 m.v, Value.int IntKind.i64 m.c, Value.int IntKind.i64 m.s, Value.int IntKind.i64 m.r, Value.int IntKind.i64 m.t, Value.slice sa L.length sc] :: Value.agg #[Value.int IntKind.i64 i, Value.slice da d.length dc, Value.slice pa p.length pc] :: Value.tuple #[Value.agg #[Value.int IntKind.i64 m.v, Value.int IntKind.i64 m.c, Value.int IntKind.i64 m.s, Value.int IntKind.i64 m.r, Value.int IntKind.i64 m.t, Value.slice uva L3.length uvc], Value.int IntKind.i64 ec] :: Value.agg #[Value.int IntKind.i64 m.v, Value.int IntKind.i64 m.c, Value.int IntKind.i64 m.s, Value.int IntKind.i64 m.r, Value.int IntKind.i64 m.t, Value.slice uva L3.length uvc] :: Value.int IntKind.i64 ec :: Value.tuple #[Value.slice jva D4.length jvc, Value.int IntKind.i64 ez] :: Value.agg #[Value.int IntKind.i64 m.v, Value.int IntKind.i64 m.c, Value.int IntKind.i64 m.s, Value.int IntKind.i64 m.r, Value.int IntKind.i64 m.t, Value.slice sa L.length sc] :: Value.tuple #[Value.slice jva D4.length jvc, Value.int IntKind.i64 ez] :: Value.slice jva D4.length jvc :: Value.int IntKind.i64 ez :: Value.tuple #[Value.slice jwa D4.length jwc, Value.int IntKind.i64 ez] :: Value.agg #[Value.int IntKind.i64 m.v, Value.int IntKind.i64 m.c, Value.int IntKind.i64 m.s, Value.int IntKind.i64 m.r, Value.int IntKind.i64 m.t, Value.slice sa L.length sc] :: Value.tuple #[Value.slice jwa D4.length jwc, Value.int IntKind.i64 ez] :: Value.slice jwa D4.length jwc :: Value.int IntKind.i64 ez :: vs 0 :: vs 1 :: vs 2 :: vs 3 :: vs 4 :: vs 5 :: vs 6 :: vs 7 :: vs 8 :: vs 9 :: vs 10 :: vs 11 :: vs 12 :: vs 13 :: vs 14 :: vs 15 :: vs 16 :: vs 17 :: vs 18 :: vs 19 :: vs 20 :: vs 21 :: vs 22 :: vs 23 :: vs 24 :: vs 25 :: vs 26 :: vs 27 :: vs 28 :: vs 29 :: vs 30 :: vs 31 :: vs 32 :: vs 33 :: vs 34 :: vs 35 :: vs 36 :: vs 37 :: vs 38 :: vs 39 :: vs 40 :: vs 41 :: vs 42 :: vs 43 :: vs 44 :: vs 45 :: vs 46 :: vs 47 :: vs 48 :: vs 49 :: vs 50 :: vs 51 :: vs 52 :: []), defers := [] } := ⟨_, rfl⟩
  have HLIT := Lib.hid hlit
  clear hlit
  obtain ⟨val, hval⟩ : ∃ val : List Value, val = [.bool true, .bool true, .agg #[.int .i64 M1.v, .int .i64 M1.c, .int .i64 M1.s, .int .i64 M1.r, .int .i64 M1.t], .agg #[.int .i64 M1.v, .int .i64 M1.c, .int .i64 M1.s, .int .i64 M1.r, .int .i64 M1.t], .bool true, .bool true, .bool true, .slice xa1 l1.length xc1, .slice xa2 l1.length xc2, .bool true, .bool true, .bool true, .int .i64 ea, .int .i64 ea, .bool true, .bool true, .bool true, .agg #[.int .i64 M2.v, .int .i64 M2.c, .int .i64 M2.s, .int .i64 M2.r, .int .i64 M2.t, .slice bva L2.length bvc], .agg #[.int .i64 M2.v, .int .i64 M2.c, .int .i64 M2.s, .int .i64 M2.r, .int .i64 M2.t, .slice cva L2.length cvc], .bool true, .bool true, .bool true, .int .i64 eb, .int .i64 eb, .bool true, .bool true, .bool true, .agg #[.int .i64 m.v, .int .i64 m.c, .int .i64 m.s, .int .i64 m.r, .int .i64 m.t, .slice tva L3.length tvc], .agg #[.int .i64 m.v, .int .i64 m.c, .int .i64 m.s, .int .i64 m.r, .int .i64 m.t, .slice uva L3.length uvc], .bool true, .bool true, .bool true, .int .i64 ec, .int .i64 ec, .bool true, .bool true, .bool true, .slice jva D4.length jvc, .slice jwa D4.length jwc, .bool true, .bool true, .bool true, .int .i64 ez, .int .i64 ez, .bool true, .bool true, .bool true, .agg #[.int .i64 m.v, .int .i64 m.c, .int .i64 m.s, .int .i64 m.r, .int .i64 m.t, .slice sa L.length sc], undef, .agg #[.int .i64 m.v, .int .i64 m.c, .int .i64 m.s, .int .i64 m.r, .int .i64 m.t, .slice sa L.length sc], undef, .bool true, .bool true, .bool true] := ⟨_, rfl⟩
  have E0 := Lib.hid (show val.getD 0 undef = .bool true by rw [hval]; rfl)
  have E1 := Lib.hid (show val.getD 1 undef = .bool true by rw [hval]; rfl)
  have E2 := Lib.hid (show val.getD 2 undef = .agg #[.int .i64 M1.v, .int .i64 M1.c, .int .i64 M1.s, .int .i64 M1.r, .int .i64 M1.t] by rw [hval]; rfl)
  have E3 := Lib.hid (show val.getD 3 undef = .agg #[.int .i64 M1.v, .int .i64 M1.c, .int .i64 M1.s, .int .i64 M1.r, .int .i64 M1.t] by rw [hval]; rfl)
  have E4 := Lib.hid (show val.getD 4 undef = .bool true by rw [hval]; rfl)
  have E5 := Lib.hid (show val.getD 5 undef = .bool true by rw [hval]; rfl)
  have E6 := Lib.hid (show val.getD 6 undef = .bool true by rw [hval]; rfl)
  have E7 := Lib.hid (show val.getD 7 undef = .slice xa1 l1.length xc1 by rw [hval]; rfl)
  have E8 := Lib.hid (show val.getD 8 undef = .slice xa2 l1.length xc2 by rw [hval]; rfl)
  have E9 := Lib.hid (show val.getD 9 undef = .bool true by rw [hval]; rfl)
  have E10 := Lib.hid (show val.getD 10 undef = .bool true by rw [hval]; rfl)
  have E11 := Lib.hid (show val.getD 11 undef = .bool true by rw [hval]; rfl)
  have E12 := Lib.hid (show val.getD 12 undef = .int .i64 ea by rw [hval]; rfl)
  have E13 := Lib.hid (show val.getD 13 undef = .int .i64 ea by rw [hval]; rfl)
  have E14 := Lib.hid (show val.getD 14 undef = .bool true by rw [hval]; rfl)
  have E15 := Lib.hid (show val.getD 15 undef = .bool true by rw [hval]; rfl)
  have E16 := Lib.hid (show val.getD 16 undef = .bool true by rw [hval]; rfl)
  have E17 := Lib.hid (show val.getD 17 undef = .agg #[.int .i64 M2.v, .int .i64 M2.c, .int .i64 M2.s, .int .i64 M2.r, .int .i64 M2.t, .slice bva L2.length bvc] by rw [hval]; rfl)
  have E18 := Lib.hid (show val.getD 18 undef = .agg #[.int .i64 M2.v, .int .i64 M2.c, .int .i64 M2.s, .int .i64 M2.r, .int .i64 M2.t, .slice cva L2.length cvc] by rw [hval]; rfl)
  have E19 := Lib.hid (show val.getD 19 undef = .bool true by rw [hval]; rfl)
  have E20 := Lib.hid (show val.getD 20 undef = .bool true by rw [hval]; rfl)
  have E21 := Lib.hid (show val.getD 21 undef = .bool true by rw [hval]; rfl)
  have E22 := Lib.hid (show val.getD 22 undef = .int .i64 eb by rw [hval]; rfl)
  have E23 := Lib.hid (show val.getD 23 undef = .int .i64 eb by rw [hval]; rfl)
  have E24 := Lib.hid (show val.getD 24 undef = .bool true by rw [hval]; rfl)
  have E25 := Lib.hid (show val.getD 25 undef = .bool true by rw [hval]; rfl)
  have E26 := Lib.hid (show val.getD 26 undef = .bool true by rw [hval]; rfl)
  have E27 := Lib.hid (show val.getD 27 undef = .agg #[.int .i64 m.v, .int .i64 m.c, .int .i64 m.s, .int .i64 m.r, .int .i64 m.t, .slice tva L3.length tvc] by rw [hval]; rfl)
  have E28 := Lib.hid (show val.getD 28 undef = .agg #[.int .i64 m.v, .int .i64 m.c, .int .i64 m.s, .int .i64 m.r, .int .i64 m.t, .slice uva L3.length uvc] by rw [hval]; rfl)
  have E29 := Lib.hid (show val.getD 29 undef = .bool true by rw [hval]; rfl)
  have E30 := Lib.hid (show val.getD 30 undef = .bool true by rw [hval]; rfl)
  have E31 := Lib.hid (show val.getD 31 undef = .bool true by rw [hval]; rfl)
  have E32 := Lib.hid (show val.getD 32 undef = .int .i64 ec by rw [hval]; rfl)
  have E33 := Lib.hid (show val.getD 33 undef = .int .i64 ec by rw [hval]; rfl)
  have E34 := Lib.hid (show val.getD 34 undef = .bool true by rw [hval]; rfl)
  have E35 := Lib.hid (show val.getD 35 undef = .bool true by rw [hval]; rfl)
  have E36 := Lib.hid (show val.getD 36 undef = .bool true by rw [hval]; rfl)
  have E37 := Lib.hid (show val.getD 37 undef = .slice jva D4.length jvc by rw [hval]; rfl)
  have E38 := Lib.hid (show val.getD 38 undef = .slice jwa D4.length jwc by rw [hval]; rfl)
  have E39 := Lib.hid (show val.getD 39 undef = .bool true by rw [hval]; rfl)
  have E40 := Lib.hid (show val.getD 40 undef = .bool true by rw [hval]; rfl)
  have E41 := Lib.hid (show val.getD 41 undef = .bool true by rw [hval]; rfl)
  have E42 := Lib.hid (show val.getD 42 undef = .int .i64 ez by rw [hval]; rfl)
  have E43 := Lib.hid (show val.getD 43 undef = .int .i64 ez by rw [hval]; rfl)
  have E44 := Lib.hid (show val.getD 44 undef = .bool true by rw [hval]; rfl)
  have E45 := Lib.hid (show val.getD 45 undef = .bool true by rw [hval]; rfl)
  have E46 := Lib.hid (show val.getD 46 undef = .bool true by rw [hval]; rfl)
  have E47 := Lib.hid (show val.getD 47 undef = .agg #[.int .i64 m.v, .int .i64 m.c, .int .i64 m.s, .int .i64 m.r, .int .i64 m.t, .slice sa L.length sc] by rw [hval]; rfl)
  have E49 := Lib.hid (show val.getD 49 undef = .agg #[.int .i64 m.v, .int .i64 m.c, .int .i64 m.s, .int .i64 m.r, .int .i64 m.t, .slice sa L.length sc] by rw [hval]; rfl)
  have E51 := Lib.hid (show val.getD 51 undef = .bool true by rw [hval]; rfl)
  have E52 := Lib.hid (show val.getD 52 undef = .bool true by rw [hval]; rfl)
  have E53 := Lib.hid (show val.getD 53 undef = .bool true by rw [hval]; rfl)
  clear hval
  obtain ⟨G, hG0⟩ : ∃ G : Nat → Value → World → Prop, G = (fun i v w => (i = 48 → IntsAt w v (msB m L)) ∧ (i = 50 → IntsAt w v (msB m L)) ∧ (i ≠ 48 → i ≠ 50 → v = val.getD i undef)) := ⟨_, rfl⟩
  have HG := Lib.hid hG0
  clear hG0
  refine region_inv (RS lit UJ G) (by kernel_rfl) (by decide +kernel) ?_ ?_ ?_
  · exact ⟨fun i => ([undef, undef, undef, undef, undef, undef, undef, undef, undef, undef, undef, undef, undef, undef, undef, undef, undef, undef, undef, undef, undef, undef, undef, undef, undef, undef, undef, undef, undef, undef, undef, undef, undef, undef, undef, undef, undef, undef, undef, undef, undef, undef, undef, undef, undef, undef, undef, undef, undef, undef, undef, undef, undef, Value.bool false] : List Value).getD i undef, (by rw [HLIT.out]; rfl), below_drew _ _, fun i h => by cases h⟩
  · refine ⟨?_, ?_, ?_, ?_, ?_, ?_, ?_, ?_, ?_, ?_, ?_, ?_, ?_, ?_, ?_, ?_, ?_, ?_, ?_, ?_, ?_, ?_, ?_, ?_, ?_, ?_, ?_, ?_, ?_, ?_, ?_, ?_, ?_, ?_, ?_, ?_, ?_, ?_, ?_, ?_, ?_, ?_, ?_, ?_, ?_, ?_, ?_, ?_, ?_, ?_, ?_, ?_, ?_, ?_, trivial⟩
    · intro bf ac wv hfb haf hJ K' hK
      obtain ⟨vs, rfl, hM, j4⟩ := hJ
      replace hK := Lib.hid hK
      replace hM := Lib.hid hM
      rw [HG.out] at j4
      replace j4 := Lib.hid j4
      clear haf hfb
      rw [HLIT.out]
      go_simp
      exact hK.out _ _ (RS.next (wv := wv) (vs := vs) 0 (x := .bool true) (by rw [HLIT.out]; rfl) (by rw [HG.out]; exact j4.out) hM.out (by rw [HG.out]; exact fun _ _ h => h) (by rw [HG.out]; exact ⟨fun h => absurd h (by decide), fun h => absurd h (by decide), fun _ _ => E0.out.symm⟩))
    · intro bf ac wv hfb haf hJ K' hK
      obtain ⟨vs, rfl, hM, j4⟩ := hJ
      replace hK := Lib.hid hK
      replace hM := Lib.hid hM
      rw [HG.out] at j4
      simp [Region.binds] at haf
      have e0 := ((j4 0 (by simp [haf])).2.2 (by decide) (by decide)).trans E0.out
      replace j4 := Lib.hid j4
      clear haf hfb
      rw [HLIT.out]
      go_simp
      exact hK.out _ _ (RS.next (wv := wv) (vs := vs) 1 (x := .bool true) (by rw [HLIT.out]; simp only [upv, e0, Nat.reduceBEq, cond_true, cond_false]) (by rw [HG.out]; exact j4.out) hM.out (by rw [HG.out]; exact fun _ _ h => h) (by rw [HG.out]; exact ⟨fun h => absurd h (by decide), fun h => absurd h (by decide), fun _ _ => E1.out.symm⟩))
    · intro bf ac wv hfb haf hJ K' hK
      obtain ⟨vs, rfl, hM, j4⟩ := hJ
      replace hK := Lib.hid hK
      replace hM := Lib.hid hM
      rw [HG.out] at j4
      simp [Region.binds] at haf
      have e1 := ((j4 1 (by simp [haf])).2.2 (by decide) (by decide)).trans E1.out
      replace j4 := Lib.hid j4
      clear haf hfb
      have x0 := (H245.out.step hM.out).c 0 rfl
      have x1 := (H245.out.step hM.out).c 1 rfl
      have x2 := (H245.out.step hM.out).c 2 rfl
      have x3 := (H245.out.step hM.out).c 3 rfl
      have x4 := (H245.out.step hM.out).c 4 rfl
      have xz := (H245.out.step hM.out).2.2
      rw [HLIT.out]
      go_simp
      exact hK.out _ _ (RS.next (wv := wv) (vs := vs) 2 (x := .agg #[.int .i64 M1.v, .int .i64 M1.c, .int .i64 M1.s, .int .i64 M1.r, .int .i64 M1.t]) (by rw [HLIT.out]; simp only [upv, e1, Nat.reduceBEq, cond_true, cond_false]) (by rw [HG.out]; exact j4.out) hM.out (by rw [HG.out]; exact fun _ _ h => h) (by rw [HG.out]; exact ⟨fun h => absurd h (by decide), fun h => absurd h (by decide), fun _ _ => E2.out.symm⟩))
    · intro bf ac wv hfb haf hJ K' hK
      obtain ⟨vs, rfl, hM, j4⟩ := hJ
      replace hK := Lib.hid hK
      replace hM := Lib.hid hM
      rw [HG.out] at j4
      simp [Region.binds] at haf
      have e1 := ((j4 1 (by simp [haf])).2.2 (by decide) (by decide)).trans E1.out
      replace j4 := Lib.hid j4
      clear haf hfb
      have x0 := (H247.out.step hM.out).c 0 rfl
      have x1 := (H247.out.step hM.out).c 1 rfl
      have x2 := (H247.out.step hM.out).c 2 rfl
      have x3 := (H247.out.step hM.out).c 3 rfl
      have x4 := (H247.out.step hM.out).c 4 rfl
      have xz := (H247.out.step hM.out).2.2
      rw [HLIT.out]
      go_simp
      exact hK.out _ _ (RS.next (wv := wv) (vs := vs) 3 (x := .agg #[.int .i64 M1.v, .int .i64 M1.c, .int .i64 M1.s, .int .i64 M1.r, .int .i64 M1.t]) (by rw [HLIT.out]; simp only [upv, e1, Nat.reduceBEq, cond_true, cond_false]) (by rw [HG.out]; exact j4.out) hM.out (by rw [HG.out]; exact fun _ _ h => h) (by rw [HG.out]; exact ⟨fun h => absurd h (by decide), fun h => absurd h (by decide), fun _ _ => E3.out.symm⟩))
    · intro bf ac wv hfb haf hJ K' hK
      obtain ⟨vs, rfl, hM, j4⟩ := hJ
      replace hK := Lib.hid hK
      replace hM := Lib.hid hM
      rw [HG.out] at j4
      simp [Region.binds] at haf
      have e1 := ((j4 1 (by simp [haf])).2.2 (by decide) (by decide)).trans E1.out
      have e2 := ((j4 2 (by simp [haf])).2.2 (by decide) (by decide)).trans E2.out
      have e3 := ((j4 3 (by simp [haf])).2.2 (by decide) (by decide)).trans E3.out
      replace j4 := Lib.hid j4
      clear haf hfb
      have q24 : ∀ (W : World), (binOp .eql 24 (.agg #[.int .i64 M1.v, .int .i64 M1.c, .int .i64 M1.s, .int .i64 M1.r, .int .i64 M1.t]) (.agg #[.int .i64 M1.v, .int .i64 M1.c, .int .i64 M1.s, .int .i64 M1.r, .int .i64 M1.t])).run Try.prog W = .ok (.bool true) W := eqm_self M1
      rw [HLIT.out]
      go_simp
      exact hK.out _ _ (RS.next (wv := wv) (vs := vs) 4 (x := .bool true) (by rw [HLIT.out]; simp only [upv, e1, e2, e3, Nat.reduceBEq, cond_true, cond_false]) (by rw [HG.out]; exact j4.out) hM.out (by rw [HG.out]; exact fun _ _ h => h) (by rw [HG.out]; exact ⟨fun h => absurd h (by decide), fun h => absurd h (by decide), fun _ _ => E4.out.symm⟩))
    · intro bf ac wv hfb haf hJ K' hK
      obtain ⟨vs, rfl, hM, j4⟩ := hJ
      replace hK := Lib.hid hK
      replace hM := Lib.hid hM
      rw [HG.out] at j4
      simp [Region.binds] at haf
      have e1 := ((j4 1 (by simp [haf])).2.2 (by decide) (by decide)).trans E1.out
      have e4 := ((j4 4 (by simp [haf])).2.2 (by decide) (by decide)).trans E4.out
      replace j4 := Lib.hid j4
      clear haf hfb
      rw [HLIT.out]
      go_simp
      exact hK.out _ _ (RS.next (wv := wv) (vs := vs) 5 (x := .bool true) (by rw [HLIT.out]; simp only [upv, e1, e4, Nat.reduceBEq, cond_true, cond_false]) (by rw [HG.out]; exact j4.out) hM.out (by rw [HG.out]; exact fun _ _ h => h) (by rw [HG.out]; exact ⟨fun h => absurd h (by decide), fun h => absurd h (by decide), fun _ _ => E5.out.symm⟩))
    · intro bf ac wv hfb haf hJ K' hK
      obtain ⟨vs, rfl, hM, j4⟩ := hJ
      replace hK := Lib.hid hK
      replace hM := Lib.hid hM
      rw [HG.out] at j4
      simp [Region.binds] at haf
      have e5 := ((j4 5 (by simp [haf])).2.2 (by decide) (by decide)).trans E5.out
      replace j4 := Lib.hid j4
      clear haf hfb
      rw [HLIT.out]
      go_simp
      exact hK.out _ _ (RS.next (wv := wv) (vs := vs) 6 (x := .bool true) (by rw [HLIT.out]; simp only [upv, e5, Nat.reduceBEq, cond_true, cond_false]) (by rw [HG.out]; exact j4.out) hM.out (by rw [HG.out]; exact fun _ _ h => h) (by rw [HG.out]; exact ⟨fun h => absurd h (by decide), fun h => absurd h (by decide), fun _ _ => E6.out.symm⟩))
    · intro bf ac wv hfb haf hJ K' hK
      obtain ⟨vs, rfl, hM, j4⟩ := hJ
      replace hK := Lib.hid hK
      replace hM := Lib.hid hM
      rw [HG.out] at j4
      simp [Region.binds] at haf
      have e6 := ((j4 6 (by simp [haf])).2.2 (by decide) (by decide)).trans E6.out
      replace j4 := Lib.hid j4
      clear haf hfb
      rw [HLIT.out]
      go_simp
      exact hK.out _ _ (RS.next (wv := wv) (vs := vs) 7 (x := .slice xa1 l1.length xc1) (by rw [HLIT.out]; simp only [upv, e6, Nat.reduceBEq, cond_true, cond_false]) (by rw [HG.out]; exact j4.out) hM.out (by rw [HG.out]; exact fun _ _ h => h) (by rw [HG.out]; exact ⟨fun h => absurd h (by decide), fun h => absurd h (by decide), fun _ _ => E7.out.symm⟩))
    · intro bf ac wv hfb haf hJ K' hK
      obtain ⟨vs, rfl, hM, j4⟩ := hJ
      replace hK := Lib.hid hK
      replace hM := Lib.hid hM
      rw [HG.out] at j4
      simp [Region.binds] at haf
      have e6 := ((j4 6 (by simp [haf])).2.2 (by decide) (by decide)).trans E6.out
      replace j4 := Lib.hid j4
      clear haf hfb
      rw [HLIT.out]
      go_simp
      exact hK.out _ _ (RS.next (wv := wv) (vs := vs) 8 (x := .slice xa2 l1.length xc2) (by rw [HLIT.out]; simp only [upv, e6, Nat.reduceBEq, cond_true, cond_false]) (by rw [HG.out]; exact j4.out) hM.out (by rw [HG.out]; exact fun _ _ h => h) (by rw [HG.out]; exact ⟨fun h => absurd h (by decide), fun h => absurd h (by decide), fun _ _ => E8.out.symm⟩))
    · intro bf ac wv hfb haf hJ K' hK
      obtain ⟨vs, rfl, hM, j4⟩ := hJ
      replace hK := Lib.hid hK
      replace hM := Lib.hid hM
      rw [HG.out] at j4
      simp [Region.binds] at haf
      have e6 := ((j4 6 (by simp [haf])).2.2 (by decide) (by decide)).trans E6.out
      have e7 := ((j4 7 (by simp [haf])).2.2 (by decide) (by decide)).trans E7.out
      have e8 := ((j4 8 (by simp [haf])).2.2 (by decide) (by decide)).trans E8.out
      replace j4 := Lib.hid j4
      clear haf hfb
      rw [HLIT.out]
      go_simp
      go_at_call 19
      refine (same_pcs _ _ l1 _ (H244.out.step hM.out) (H246.out.step hM.out) (by have := hn1.out; omega)).mono ?_
      rintro e w4 ⟨rfl, b4⟩
      exact hK.out _ _ (RS.next (wv := wv) (vs := vs) 9 (x := .bool true) (by rw [HLIT.out]; simp only [upv, e6, e7, e8, Nat.reduceBEq, cond_true, cond_false]) (by rw [HG.out]; exact j4.out) (keep2 b4 hM.out) (by rw [HG.out]; exact fun k v h => ⟨fun q => (h.1 q).step b4, fun q => (h.2.1 q).step b4, h.2.2⟩) (by rw [HG.out]; exact ⟨fun h => absurd h (by decide), fun h => absurd h (by decide), fun _ _ => E9.out.symm⟩))
    · intro bf ac wv hfb haf hJ K' hK
      obtain ⟨vs, rfl, hM, j4⟩ := hJ
      replace hK := Lib.hid hK
      replace hM := Lib.hid hM
      rw [HG.out] at j4
      simp [Region.binds] at haf
      have e6 := ((j4 6 (by simp [haf])).2.2 (by decide) (by decide)).trans E6.out
      have e9 := ((j4 9 (by simp [haf])).2.2 (by decide) (by decide)).trans E9.out
      replace j4 := Lib.hid j4
      clear haf hfb
      rw [HLIT.out]
      go_simp
      exact hK.out _ _ (RS.next (wv := wv) (vs := vs) 10 (x := .bool true) (by rw [HLIT.out]; simp only [upv, e6, e9, Nat.reduceBEq, cond_true, cond_false]) (by rw [HG.out]; exact j4.out) hM.out (by rw [HG.out]; exact fun _ _ h => h) (by rw [HG.out]; exact ⟨fun h => absurd h (by decide), fun h => absurd h (by decide), fun _ _ => E10.out.symm⟩))
    · intro bf ac wv hfb haf hJ K' hK
      obtain ⟨vs, rfl, hM, j4⟩ := hJ
      replace hK := Lib.hid hK
      replace hM := Lib.hid hM
      rw [HG.out] at j4
      simp [Region.binds] at haf
      have e10 := ((j4 10 (by simp [haf])).2.2 (by decide) (by decide)).trans E10.out
      replace j4 := Lib.hid j4
      clear haf hfb
      rw [HLIT.out]
      go_simp
      exact hK.out _ _ (RS.next (wv := wv) (vs := vs) 11 (x := .bool true) (by rw [HLIT.out]; simp only [upv, e10, Nat.reduceBEq, cond_true, cond_false]) (by rw [HG.out]; exact j4.out) hM.out (by rw [HG.out]; exact fun _ _ h => h) (by rw [HG.out]; exact ⟨fun h => absurd h (by decide), fun h => absurd h (by decide), fun _ _ => E11.out.symm⟩))
    · intro bf ac wv hfb haf hJ K' hK
      obtain ⟨vs, rfl, hM, j4⟩ := hJ
      replace hK := Lib.hid hK
      replace hM := Lib.hid hM
      rw [HG.out] at j4
      simp [Region.binds] at haf
      have e11 := ((j4 11 (by simp [haf])).2.2 (by decide) (by decide)).trans E11.out
      replace j4 := Lib.hid j4
      clear haf hfb
      rw [HLIT.out]
      go_simp
      exact hK.out _ _ (RS.next (wv := wv) (vs := vs) 12 (x := .int .i64 ea) (by rw [HLIT.out]; simp only [upv, e11, Nat.reduceBEq, cond_true, cond_false]) (by rw [HG.out]; exact j4.out) hM.out (by rw [HG.out]; exact fun _ _ h => h) (by rw [HG.out]; exact ⟨fun h => absurd h (by decide), fun h => absurd h (by decide), fun _ _ => E12.out.symm⟩))
    · intro bf ac wv hfb haf hJ K' hK
      obtain ⟨vs, rfl, hM, j4⟩ := hJ
      replace hK := Lib.hid hK
      replace hM := Lib.hid hM
      rw [HG.out] at j4
      simp [Region.binds] at haf
      have e11 := ((j4 11 (by simp [haf])).2.2 (by decide) (by decide)).trans E11.out
      replace j4 := Lib.hid j4
      clear haf hfb
      rw [HLIT.out]
      go_simp
      exact hK.out _ _ (RS.next (wv := wv) (vs := vs) 13 (x := .int .i64 ea) (by rw [HLIT.out]; simp only [upv, e11, Nat.reduceBEq, cond_true, cond_false]) (by rw [HG.out]; exact j4.out) hM.out (by rw [HG.out]; exact fun _ _ h => h) (by rw [HG.out]; exact ⟨fun h => absurd h (by decide), fun h => absurd h (by decide), fun _ _ => E13.out.symm⟩))
    · intro bf ac wv hfb haf hJ K' hK
      obtain ⟨vs, rfl, hM, j4⟩ := hJ
      replace hK := Lib.hid hK
      replace hM := Lib.hid hM
      rw [HG.out] at j4
      simp [Region.binds] at haf
      have e11 := ((j4 11 (by simp [haf])).2.2 (by decide) (by decide)).trans E11.out
      have e12 := ((j4 12 (by simp [haf])).2.2 (by decide) (by decide)).trans E12.out
      have e13 := ((j4 13 (by simp [haf])).2.2 (by decide) (by decide)).trans E13.out
      replace j4 := Lib.hid j4
      clear haf hfb
      rw [HLIT.out]
      go_simp
      exact hK.out _ _ (RS.next (wv := wv) (vs := vs) 14 (x := .bool true) (by rw [HLIT.out]; simp only [upv, e11, e12, e13, Nat.reduceBEq, cond_true, cond_false]) (by rw [HG.out]; exact j4.out) hM.out (by rw [HG.out]; exact fun _ _ h => h) (by rw [HG.out]; exact ⟨fun h => absurd h (by decide), fun h => absurd h (by decide), fun _ _ => E14.out.symm⟩))
    · intro bf ac wv hfb haf hJ K' hK
      obtain ⟨vs, rfl, hM, j4⟩ := hJ
      replace hK := Lib.hid hK
      replace hM := Lib.hid hM
      rw [HG.out] at j4
      simp [Region.binds] at haf
      have e11 := ((j4 11 (by simp [haf])).2.2 (by decide) (by decide)).trans E11.out
      have e14 := ((j4 14 (by simp [haf])).2.2 (by decide) (by decide)).trans E14.out
      replace j4 := Lib.hid j4
      clear haf hfb
      rw [HLIT.out]
      go_simp
      exact hK.out _ _ (RS.next (wv := wv) (vs := vs) 15 (x := .bool true) (by rw [HLIT.out]; simp only [upv, e11, e14, Nat.reduceBEq, cond_true, cond_false]) (by rw [HG.out]; exact j4.out) hM.out (by rw [HG.out]; exact fun _ _ h => h) (by rw [HG.out]; exact ⟨fun h => absurd h (by decide), fun h => absurd h (by decide), fun _ _ => E15.out.symm⟩))
    · intro bf ac wv hfb haf hJ K' hK
      obtain ⟨vs, rfl, hM, j4⟩ := hJ
      replace hK := Lib.hid hK
      replace hM := Lib.hid hM
      rw [HG.out] at j4
      simp [Region.binds] at haf
      have e15 := ((j4 15 (by simp [haf])).2.2 (by decide) (by decide)).trans E15.out
      replace j4 := Lib.hid j4
      clear haf hfb
      rw [HLIT.out]
      go_simp
      exact hK.out _ _ (RS.next (wv := wv) (vs := vs) 16 (x := .bool true) (by rw [HLIT.out]; simp only [upv, e15, Nat.reduceBEq, cond_true, cond_false]) (by rw [HG.out]; exact j4.out) hM.out (by rw [HG.out]; exact fun _ _ h => h) (by rw [HG.out]; exact ⟨fun h => absurd h (by decide), fun h => absurd h (by decide), fun _ _ => E16.out.symm⟩))
    · intro bf ac wv hfb haf hJ K' hK
      obtain ⟨vs, rfl, hM, j4⟩ := hJ
      replace hK := Lib.hid hK
      replace hM := Lib.hid hM
      rw [HG.out] at j4
      simp [Region.binds] at haf
      have e16 := ((j4 16 (by simp [haf])).2.2 (by decide) (by decide)).trans E16.out
      replace j4 := Lib.hid j4
      clear haf hfb
      have x0 := (H249.out.step hM.out).c 0 rfl
      have x1 := (H249.out.step hM.out).c 1 rfl
      have x2 := (H249.out.step hM.out).c 2 rfl
      have x3 := (H249.out.step hM.out).c 3 rfl
      have x4 := (H249.out.step hM.out).c 4 rfl
      have x5 := (H249.out.step hM.out).c 5 rfl
      have xz := (H249.out.step hM.out).2.2
      rw [HLIT.out]
      go_simp
      exact hK.out _ _ (RS.next (wv := wv) (vs := vs) 17 (x := .agg #[.int .i64 M2.v, .int .i64 M2.c, .int .i64 M2.s, .int .i64 M2.r, .int .i64 M2.t, .slice bva L2.length bvc]) (by rw [HLIT.out]; simp only [upv, e16, Nat.reduceBEq, cond_true, cond_false]) (by rw [HG.out]; exact j4.out) hM.out (by rw [HG.out]; exact fun _ _ h => h) (by rw [HG.out]; exact ⟨fun h => absurd h (by decide), fun h => absurd h (by decide), fun _ _ => E17.out.symm⟩))
    · intro bf ac wv hfb haf hJ K' hK
      obtain ⟨vs, rfl, hM, j4⟩ := hJ
      replace hK := Lib.hid hK
      replace hM := Lib.hid hM
      rw [HG.out] at j4
      simp [Region.binds] at haf
      have e16 := ((j4 16 (by simp [haf])).2.2 (by decide) (by decide)).trans E16.out
      replace j4 := Lib.hid j4
      clear haf hfb
      have x0 := (H251.out.step hM.out).c 0 rfl
      have x1 := (H251.out.step hM.out).c 1 rfl
      have x2 := (H251.out.step hM.out).c 2 rfl
      have x3 := (H251.out.step hM.out).c 3 rfl
      have x4 := (H251.out.step hM.out).c 4 rfl
      have x5 := (H251.out.step hM.out).c 5 rfl
      have xz := (H251.out.step hM.out).2.2
      rw [HLIT.out]
      go_simp
      exact hK.out _ _ (RS.next (wv := wv) (vs := vs) 18 (x := .agg #[.int .i64 M2.v, .int .i64 M2.c, .int .i64 M2.s, .int .i64 M2.r, .int .i64 M2.t, .slice cva L2.length cvc]) (by rw [HLIT.out]; simp only [upv, e16, Nat.reduceBEq, cond_true, cond_false]) (by rw [HG.out]; exact j4.out) hM.out (by rw [HG.out]; exact fun _ _ h => h) (by rw [HG.out]; exact ⟨fun h => absurd h (by decide), fun h => absurd h (by decide), fun _ _ => E18.out.symm⟩))
    · intro bf ac wv hfb haf hJ K' hK
      obtain ⟨vs, rfl, hM, j4⟩ := hJ
      replace hK := Lib.hid hK
      replace hM := Lib.hid hM
      rw [HG.out] at j4
      simp [Region.binds] at haf
      have e16 := ((j4 16 (by simp [haf])).2.2 (by decide) (by decide)).trans E16.out
      have e17 := ((j4 17 (by simp [haf])).2.2 (by decide) (by decide)).trans E17.out
      have e18 := ((j4 18 (by simp [haf])).2.2 (by decide) (by decide)).trans E18.out
      replace j4 := Lib.hid j4
      clear haf hfb
      rw [HLIT.out]
      go_simp
      go_at_call 20
      refine (same_slot M2 _ _ L2 _ (H248.out.step hM.out) (H250.out.step hM.out) (by rw [← hL2.out]; exact bgL_le heb.out)).mono ?_
      rintro e w4 ⟨rfl, b4⟩
      exact hK.out _ _ (RS.next (wv := wv) (vs := vs) 19 (x := .bool true) (by rw [HLIT.out]; simp only [upv, e16, e17, e18, Nat.reduceBEq, cond_true, cond_false]) (by rw [HG.out]; exact j4.out) (keep2 b4 hM.out) (by rw [HG.out]; exact fun k v h => ⟨fun q => (h.1 q).step b4, fun q => (h.2.1 q).step b4, h.2.2⟩) (by rw [HG.out]; exact ⟨fun h => absurd h (by decide), fun h => absurd h (by decide), fun _ _ => E19.out.symm⟩))
    · intro bf ac wv hfb haf hJ K' hK
      obtain ⟨vs, rfl, hM, j4⟩ := hJ
      replace hK := Lib.hid hK
      replace hM := Lib.hid hM
      rw [HG.out] at j4
      simp [Region.binds] at haf
      have e16 := ((j4 16 (by simp [haf])).2.2 (by decide) (by decide)).trans E16.out
      have e19 := ((j4 19 (by simp [haf])).2.2 (by decide) (by decide)).trans E19.out
      replace j4 := Lib.hid j4
      clear haf hfb
      rw [HLIT.out]
      go_simp
      exact hK.out _ _ (RS.next (wv := wv) (vs := vs) 20 (x := .bool true) (by rw [HLIT.out]; simp only [upv, e16, e19, Nat.reduceBEq, cond_true, cond_false]) (by rw [HG.out]; exact j4.out) hM.out (by rw [HG.out]; exact fun _ _ h => h) (by rw [HG.out]; exact ⟨fun h => absurd h (by decide), fun h => absurd h (by decide), fun _ _ => E20.out.symm⟩))
    · intro bf ac wv hfb haf hJ K' hK
      obtain ⟨vs, rfl, hM, j4⟩ := hJ
      replace hK := Lib.hid hK
      replace hM := Lib.hid hM
      rw [HG.out] at j4
      simp [Region.binds] at haf
      have e20 := ((j4 20 (by simp [haf])).2.2 (by decide) (by decide)).trans E20.out
      replace j4 := Lib.hid j4
      clear haf hfb
      rw [HLIT.out]
      go_simp
      exact hK.out _ _ (RS.next (wv := wv) (vs := vs) 21 (x := .bool true) (by rw [HLIT.out]; simp only [upv, e20, Nat.reduceBEq, cond_true, cond_false]) (by rw [HG.out]; exact j4.out) hM.out (by rw [HG.out]; exact fun _ _ h => h) (by rw [HG.out]; exact ⟨fun h => absurd h (by decide), fun h => absurd h (by decide), fun _ _ => E21.out.symm⟩))
    · intro bf ac wv hfb haf hJ K' hK
      obtain ⟨vs, rfl, hM, j4⟩ := hJ
      replace hK := Lib.hid hK
      replace hM := Lib.hid hM
      rw [HG.out] at j4
      simp [Region.binds] at haf
      have e21 := ((j4 21 (by simp [haf])).2.2 (by decide) (by decide)).trans E21.out
      replace j4 := Lib.hid j4
      clear haf hfb
      rw [HLIT.out]
      go_simp
      exact hK.out _ _ (RS.next (wv := wv) (vs := vs) 22 (x := .int .i64 eb) (by rw [HLIT.out]; simp only [upv, e21, Nat.reduceBEq, cond_true, cond_false]) (by rw [HG.out]; exact j4.out) hM.out (by rw [HG.out]; exact fun _ _ h => h) (by rw [HG.out]; exact ⟨fun h => absurd h (by decide), fun h => absurd h (by decide), fun _ _ => E22.out.symm⟩))
    · intro bf ac wv hfb haf hJ K' hK
      obtain ⟨vs, rfl, hM, j4⟩ := hJ
      replace hK := Lib.hid hK
      replace hM := Lib.hid hM
      rw [HG.out] at j4
      simp [Region.binds] at haf
      have e21 := ((j4 21 (by simp [haf])).2.2 (by decide) (by decide)).trans E21.out
      replace j4 := Lib.hid j4
      clear haf hfb
      rw [HLIT.out]
      go_simp
      exact hK.out _ _ (RS.next (wv := wv) (vs := vs) 23 (x := .int .i64 eb) (by rw [HLIT.out]; simp only [upv, e21, Nat.reduceBEq, cond_true, cond_false]) (by rw [HG.out]; exact j4.out) hM.out (by rw [HG.out]; exact fun _ _ h => h) (by rw [HG.out]; exact ⟨fun h => absurd h (by decide), fun h => absurd h (by decide), fun _ _ => E23.out.symm⟩))
    · intro bf ac wv hfb haf hJ K' hK
      obtain ⟨vs, rfl, hM, j4⟩ := hJ
      replace hK := Lib.hid hK
      replace hM := Lib.hid hM
      rw [HG.out] at j4
      simp [Region.binds] at haf
      have e21 := ((j4 21 (by simp [haf])).2.2 (by decide) (by decide)).trans E21.out
      have e22 := ((j4 22 (by simp [haf])).2.2 (by decide) (by decide)).trans E22.out
      have e23 := ((j4 23 (by simp [haf])).2.2 (by decide) (by decide)).trans E23.out
      replace j4 := Lib.hid j4
      clear haf hfb
      rw [HLIT.out]
      go_simp
      exact hK.out _ _ (RS.next (wv := wv) (vs := vs) 24 (x := .bool true) (by rw [HLIT.out]; simp only [upv, e21, e22, e23, Nat.reduceBEq, cond_true, cond_false]) (by rw [HG.out]; exact j4.out) hM.out (by rw [HG.out]; exact fun _ _ h => h) (by rw [HG.out]; exact ⟨fun h => absurd h (by decide), fun h => absurd h (by decide), fun _ _ => E24.out.symm⟩))
    · intro bf ac wv hfb haf hJ K' hK
      obtain ⟨vs, rfl, hM, j4⟩ := hJ
      replace hK := Lib.hid hK
      replace hM := Lib.hid hM
      rw [HG.out] at j4
      simp [Region.binds] at haf
      have e21 := ((j4 21 (by simp [haf])).2.2 (by decide) (by decide)).trans E21.out
      have e24 := ((j4 24 (by simp [haf])).2.2 (by decide) (by decide)).trans E24.out
      replace j4 := Lib.hid j4
      clear haf hfb
      rw [HLIT.out]
      go_simp
      exact hK.out _ _ (RS.next (wv := wv) (vs := vs) 25 (x := .bool true) (by rw [HLIT.out]; simp only [upv, e21, e24, Nat.reduceBEq, cond_true, cond_false]) (by rw [HG.out]; exact j4.out) hM.out (by rw [HG.out]; exact fun _ _ h => h) (by rw [HG.out]; exact ⟨fun h => absurd h (by decide), fun h => absurd h (by decide), fun _ _ => E25.out.symm⟩))
    · intro bf ac wv hfb haf hJ K' hK
      obtain ⟨vs, rfl, hM, j4⟩ := hJ
      replace hK := Lib.hid hK
      replace hM := Lib.hid hM
      rw [HG.out] at j4
      simp [Region.binds] at haf
      have e25 := ((j4 25 (by simp [haf])).2.2 (by decide) (by decide)).trans E25.out
      replace j4 := Lib.hid j4
      clear haf hfb
      rw [HLIT.out]
      go_simp
      exact hK.out _ _ (RS.next (wv := wv) (vs := vs) 26 (x := .bool true) (by rw [HLIT.out]; simp only [upv, e25, Nat.reduceBEq, cond_true, cond_false]) (by rw [HG.out]; exact j4.out) hM.out (by rw [HG.out]; exact fun _ _ h => h) (by rw [HG.out]; exact ⟨fun h => absurd h (by decide), fun h => absurd h (by decide), fun _ _ => E26.out.symm⟩))
    · intro bf ac wv hfb haf hJ K' hK
      obtain ⟨vs, rfl, hM, j4⟩ := hJ
      replace hK := Lib.hid hK
      replace hM := Lib.hid hM
      rw [HG.out] at j4
      simp [Region.binds] at haf
      have e26 := ((j4 26 (by simp [haf])).2.2 (by decide) (by decide)).trans E26.out
      replace j4 := Lib.hid j4
      clear haf hfb
      have x0 := (H253.out.step hM.out).c 0 rfl
      have x1 := (H253.out.step hM.out).c 1 rfl
      have x2 := (H253.out.step hM.out).c 2 rfl
      have x3 := (H253.out.step hM.out).c 3 rfl
      have x4 := (H253.out.step hM.out).c 4 rfl
      have x5 := (H253.out.step hM.out).c 5 rfl
      have xz := (H253.out.step hM.out).2.2
      rw [HLIT.out]
      go_simp
      exact hK.out _ _ (RS.next (wv := wv) (vs := vs) 27 (x := .agg #[.int .i64 m.v, .int .i64 m.c, .int .i64 m.s, .int .i64 m.r, .int .i64 m.t, .slice tva L3.length tvc]) (by rw [HLIT.out]; simp only [upv, e26, Nat.reduceBEq, cond_true, cond_false]) (by rw [HG.out]; exact j4.out) hM.out (by rw [HG.out]; exact fun _ _ h => h) (by rw [HG.out]; exact ⟨fun h => absurd h (by decide), fun h => absurd h (by decide), fun _ _ => E27.out.symm⟩))
    · intro bf ac wv hfb haf hJ K' hK
      obtain ⟨vs, rfl, hM, j4⟩ := hJ
      replace hK := Lib.hid hK
      replace hM := Lib.hid hM
      rw [HG.out] at j4
      simp [Region.binds] at haf
      have e26 := ((j4 26 (by simp [haf])).2.2 (by decide) (by decide)).trans E26.out
      replace j4 := Lib.hid j4
      clear haf hfb
      have x0 := (H255.out.step hM.out).c 0 rfl
      have x1 := (H255.out.step hM.out).c 1 rfl
      have x2 := (H255.out.step hM.out).c 2 rfl
      have x3 := (H255.out.step hM.out).c 3 rfl
      have x4 := (H255.out.step hM.out).c 4 rfl
      have x5 := (H255.out.step hM.out).c 5 rfl
      have xz := (H255.out.step hM.out).2.2
      rw [HLIT.out]
      go_simp
      exact hK.out _ _ (RS.next (wv := wv) (vs := vs) 28 (x := .agg #[.int .i64 m.v, .int .i64 m.c, .int .i64 m.s, .int .i64 m.r, .int .i64 m.t, .slice uva L3.length uvc]) (by rw [HLIT.out]; simp only [upv, e26, Nat.reduceBEq, cond_true, cond_false]) (by rw [HG.out]; exact j4.out) hM.out (by rw [HG.out]; exact fun _ _ h => h) (by rw [HG.out]; exact ⟨fun h => absurd h (by decide), fun h => absurd h (by decide), fun _ _ => E28.out.symm⟩))
    · intro bf ac wv hfb haf hJ K' hK
      obtain ⟨vs, rfl, hM, j4⟩ := hJ
      replace hK := Lib.hid hK
      replace hM := Lib.hid hM
      rw [HG.out] at j4
      simp [Region.binds] at haf
      have e26 := ((j4 26 (by simp [haf])).2.2 (by decide) (by decide)).trans E26.out
      have e27 := ((j4 27 (by simp [haf])).2.2 (by decide) (by decide)).trans E27.out
      have e28 := ((j4 28 (by simp [haf])).2.2 (by decide) (by decide)).trans E28.out
      replace j4 := Lib.hid j4
      clear haf hfb
      rw [HLIT.out]
      go_simp
      go_at_call 20
      refine (same_slot m _ _ L3 _ (H252.out.step hM.out) (H254.out.step hM.out) (by rw [← hL3.out]; exact adL_len (by have := HFP.out.2.1; omega))).mono ?_
      rintro e w4 ⟨rfl, b4⟩
      exact hK.out _ _ (RS.next (wv := wv) (vs := vs) 29 (x := .bool true) (by rw [HLIT.out]; simp only [upv, e26, e27, e28, Nat.reduceBEq, cond_true, cond_false]) (by rw [HG.out]; exact j4.out) (keep2 b4 hM.out) (by rw [HG.out]; exact fun k v h => ⟨fun q => (h.1 q).step b4, fun q => (h.2.1 q).step b4, h.2.2⟩) (by rw [HG.out]; exact ⟨fun h => absurd h (by decide), fun h => absurd h (by decide), fun _ _ => E29.out.symm⟩))
    · intro bf ac wv hfb haf hJ K' hK
      obtain ⟨vs, rfl, hM, j4⟩ := hJ
      replace hK := Lib.hid hK
      replace hM := Lib.hid hM
      rw [HG.out] at j4
      simp [Region.binds] at haf
      have e26 := ((j4 26 (by simp [haf])).2.2 (by decide) (by decide)).trans E26.out
      have e29 := ((j4 29 (by simp [haf])).2.2 (by decide) (by decide)).trans E29.out
      replace j4 := Lib.hid j4
      clear haf hfb
      rw [HLIT.out]
      go_simp
      exact hK.out _ _ (RS.next (wv := wv) (vs := vs) 30 (x := .bool true) (by rw [HLIT.out]; simp only [upv, e26, e29, Nat.reduceBEq, cond_true, cond_false]) (by rw [HG.out]; exact j4.out) hM.out (by rw [HG.out]; exact fun _ _ h => h) (by rw [HG.out]; exact ⟨fun h => absurd h (by decide), fun h => absurd h (by decide), fun _ _ => E30.out.symm⟩))
    · intro bf ac wv hfb haf hJ K' hK
      obtain ⟨vs, rfl, hM, j4⟩ := hJ
      replace hK := Lib.hid hK
      replace hM := Lib.hid hM
      rw [HG.out] at j4
      simp [Region.binds] at haf
      have e30 := ((j4 30 (by simp [haf])).2.2 (by decide) (by decide)).trans E30.out
      replace j4 := Lib.hid j4
      clear haf hfb
      rw [HLIT.out]
      go_simp
      exact hK.out _ _ (RS.next (wv := wv) (vs := vs) 31 (x := .bool true) (by rw [HLIT.out]; simp only [upv, e30, Nat.reduceBEq, cond_true, cond_false]) (by rw [HG.out]; exact j4.out) hM.out (by rw [HG.out]; exact fun _ _ h => h) (by rw [HG.out]; exact ⟨fun h => absurd h (by decide), fun h => absurd h (by decide), fun _ _ => E31.out.symm⟩))
    · intro bf ac wv hfb haf hJ K' hK
      obtain ⟨vs, rfl, hM, j4⟩ := hJ
      replace hK := Lib.hid hK
      replace hM := Lib.hid hM
      rw [HG.out] at j4
      simp [Region.binds] at haf
      have e31 := ((j4 31 (by simp [haf])).2.2 (by decide) (by decide)).trans E31.out
      replace j4 := Lib.hid j4
      clear haf hfb
      rw [HLIT.out]
      go_simp
      exact hK.out _ _ (RS.next (wv := wv) (vs := vs) 32 (x := .int .i64 ec) (by rw [HLIT.out]; simp only [upv, e31, Nat.reduceBEq, cond_true, cond_false]) (by rw [HG.out]; exact j4.out) hM.out (by rw [HG.out]; exact fun _ _ h => h) (by rw [HG.out]; exact ⟨fun h => absurd h (by decide), fun h => absurd h (by decide), fun _ _ => E32.out.symm⟩))
    · intro bf ac wv hfb haf hJ K' hK
      obtain ⟨vs, rfl, hM, j4⟩ := hJ
      replace hK := Lib.hid hK
      replace hM := Lib.hid hM
      rw [HG.out] at j4
      simp [Region.binds] at haf
      have e31 := ((j4 31 (by simp [haf])).2.2 (by decide) (by decide)).trans E31.out
      replace j4 := Lib.hid j4
      clear haf hfb
      rw [HLIT.out]
      go_simp
      exact hK.out _ _ (RS.next (wv := wv) (vs := vs) 33 (x := .int .i64 ec) (by rw [HLIT.out]; simp only [upv, e31, Nat.reduceBEq, cond_true, cond_false]) (by rw [HG.out]; exact j4.out) hM.out (by rw [HG.out]; exact fun _ _ h => h) (by rw [HG.out]; exact ⟨fun h => absurd h (by decide), fun h => absurd h (by decide), fun _ _ => E33.out.symm⟩))
    · intro bf ac wv hfb haf hJ K' hK
      obtain ⟨vs, rfl, hM, j4⟩ := hJ
      replace hK := Lib.hid hK
      replace hM := Lib.hid hM
      rw [HG.out] at j4
      simp [Region.binds] at haf
      have e31 := ((j4 31 (by simp [haf])).2.2 (by decide) (by decide)).trans E31.out
      have e32 := ((j4 32 (by simp [haf])).2.2 (by decide) (by decide)).trans E32.out
      have e33 := ((j4 33 (by simp [haf])).2.2 (by decide) (by decide)).trans E33.out
      replace j4 := Lib.hid j4
      clear haf hfb
      rw [HLIT.out]
      go_simp
      exact hK.out _ _ (RS.next (wv := wv) (vs := vs) 34 (x := .bool true) (by rw [HLIT.out]; simp only [upv, e31, e32, e33, Nat.reduceBEq, cond_true, cond_false]) (by rw [HG.out]; exact j4.out) hM.out (by rw [HG.out]; exact fun _ _ h => h) (by rw [HG.out]; exact ⟨fun h => absurd h (by decide), fun h => absurd h (by decide), fun _ _ => E34.out.symm⟩))
    · intro bf ac wv hfb haf hJ K' hK
      obtain ⟨vs, rfl, hM, j4⟩ := hJ
      replace hK := Lib.hid hK
      replace hM := Lib.hid hM
      rw [HG.out] at j4
      simp [Region.binds] at haf
      have e31 := ((j4 31 (by simp [haf])).2.2 (by decide) (by decide)).trans E31.out
      have e34 := ((j4 34 (by simp [haf])).2.2 (by decide) (by decide)).trans E34.out
      replace j4 := Lib.hid j4
      clear haf hfb
      rw [HLIT.out]
      go_simp
      exact hK.out _ _ (RS.next (wv := wv) (vs := vs) 35 (x := .bool true) (by rw [HLIT.out]; simp only [upv, e31, e34, Nat.reduceBEq, cond_true, cond_false]) (by rw [HG.out]; exact j4.out) hM.out (by rw [HG.out]; exact fun _ _ h => h) (by rw [HG.out]; exact ⟨fun h => absurd h (by decide), fun h => absurd h (by decide), fun _ _ => E35.out.symm⟩))
    · intro bf ac wv hfb haf hJ K' hK
      obtain ⟨vs, rfl, hM, j4⟩ := hJ
      replace hK := Lib.hid hK
      replace hM := Lib.hid hM
      rw [HG.out] at j4
      simp [Region.binds] at haf
      have e35 := ((j4 35 (by simp [haf])).2.2 (by decide) (by decide)).trans E35.out
      replace j4 := Lib.hid j4
      clear haf hfb
      rw [HLIT.out]
      go_simp
      exact hK.out _ _ (RS.next (wv := wv) (vs := vs) 36 (x := .bool true) (by rw [HLIT.out]; simp only [upv, e35, Nat.reduceBEq, cond_true, cond_false]) (by rw [HG.out]; exact j4.out) hM.out (by rw [HG.out]; exact fun _ _ h => h) (by rw [HG.out]; exact ⟨fun h => absurd h (by decide), fun h => absurd h (by decide), fun _ _ => E36.out.symm⟩))
    · intro bf ac wv hfb haf hJ K' hK
      obtain ⟨vs, rfl, hM, j4⟩ := hJ
      replace hK := Lib.hid hK
      replace hM := Lib.hid hM
      rw [HG.out] at j4
      simp [Region.binds] at haf
      have e36 := ((j4 36 (by simp [haf])).2.2 (by decide) (by decide)).trans E36.out
      replace j4 := Lib.hid j4
      clear haf hfb
      rw [HLIT.out]
      go_simp
      exact hK.out _ _ (RS.next (wv := wv) (vs := vs) 37 (x := .slice jva D4.length jvc) (by rw [HLIT.out]; simp only [upv, e36, Nat.reduceBEq, cond_true, cond_false]) (by rw [HG.out]; exact j4.out) hM.out (by rw [HG.out]; exact fun _ _ h => h) (by rw [HG.out]; exact ⟨fun h => absurd h (by decide), fun h => absurd h (by decide), fun _ _ => E37.out.symm⟩))
    · intro bf ac wv hfb haf hJ K' hK
      obtain ⟨vs, rfl, hM, j4⟩ := hJ
      replace hK := Lib.hid hK
      replace hM := Lib.hid hM
      rw [HG.out] at j4
      simp [Region.binds] at haf
      have e36 := ((j4 36 (by simp [haf])).2.2 (by decide) (by decide)).trans E36.out
      replace j4 := Lib.hid j4
      clear haf hfb
      rw [HLIT.out]
      go_simp
      exact hK.out _ _ (RS.next (wv := wv) (vs := vs) 38 (x := .slice jwa D4.length jwc) (by rw [HLIT.out]; simp only [upv, e36, Nat.reduceBEq, cond_true, cond_false]) (by rw [HG.out]; exact j4.out) hM.out (by rw [HG.out]; exact fun _ _ h => h) (by rw [HG.out]; exact ⟨fun h => absurd h (by decide), fun h => absurd h (by decide), fun _ _ => E38.out.symm⟩))
    · intro bf ac wv hfb haf hJ K' hK
      obtain ⟨vs, rfl, hM, j4⟩ := hJ
      replace hK := Lib.hid hK
      replace hM := Lib.hid hM
      rw [HG.out] at j4
      simp [Region.binds] at haf
      have e36 := ((j4 36 (by simp [haf])).2.2 (by decide) (by decide)).trans E36.out
      have e37 := ((j4 37 (by simp [haf])).2.2 (by decide) (by decide)).trans E37.out
      have e38 := ((j4 38 (by simp [haf])).2.2 (by decide) (by decide)).trans E38.out
      replace j4 := Lib.hid j4
      clear haf hfb
      rw [HLIT.out]
      go_simp
      go_at_call 21
      refine (intsB_any _ _ D4 _ (H256.out.step hM.out) (H258.out.step hM.out)).mono ?_
      rintro e w4 ⟨rfl, b4⟩
      exact hK.out _ _ (RS.next (wv := wv) (vs := vs) 39 (x := .bool true) (by rw [HLIT.out]; simp only [upv, e36, e37, e38, Nat.reduceBEq, cond_true, cond_false]) (by rw [HG.out]; exact j4.out) (keep2 b4 hM.out) (by rw [HG.out]; exact fun k v h => ⟨fun q => (h.1 q).step b4, fun q => (h.2.1 q).step b4, h.2.2⟩) (by rw [HG.out]; exact ⟨fun h => absurd h (by decide), fun h => absurd h (by decide), fun _ _ => E39.out.symm⟩))
    · intro bf ac wv hfb haf hJ K' hK
      obtain ⟨vs, rfl, hM, j4⟩ := hJ
      replace hK := Lib.hid hK
      replace hM := Lib.hid hM
      rw [HG.out] at j4
      simp [Region.binds] at haf
      have e36 := ((j4 36 (by simp [haf])).2.2 (by decide) (by decide)).trans E36.out
      have e39 := ((j4 39 (by simp [haf])).2.2 (by decide) (by decide)).trans E39.out
      replace j4 := Lib.hid j4
      clear haf hfb
      rw [HLIT.out]
      go_simp
      exact hK.out _ _ (RS.next (wv := wv) (vs := vs) 40 (x := .bool true) (by rw [HLIT.out]; simp only [upv, e36, e39, Nat.reduceBEq, cond_true, cond_false]) (by rw [HG.out]; exact j4.out) hM.out (by rw [HG.out]; exact fun _ _ h => h) (by rw [HG.out]; exact ⟨fun h => absurd h (by decide), fun h => absurd h (by decide), fun _ _ => E40.out.symm⟩))
    · intro bf ac wv hfb haf hJ K' hK
      obtain ⟨vs, rfl, hM, j4⟩ := hJ
      replace hK := Lib.hid hK
      replace hM := Lib.hid hM
      rw [HG.out] at j4
      simp [Region.binds] at haf
      have e40 := ((j4 40 (by simp [haf])).2.2 (by decide) (by decide)).trans E40.out
      replace j4 := Lib.hid j4
      clear haf hfb
      rw [HLIT.out]
      go_simp
      exact hK.out _ _ (RS.next (wv := wv) (vs := vs) 41 (x := .bool true) (by rw [HLIT.out]; simp only [upv, e40, Nat.reduceBEq, cond_true, cond_false]) (by rw [HG.out]; exact j4.out) hM.out (by rw [HG.out]; exact fun _ _ h => h) (by rw [HG.out]; exact ⟨fun h => absurd h (by decide), fun h => absurd h (by decide), fun _ _ => E41.out.symm⟩))
    · intro bf ac wv hfb haf hJ K' hK
      obtain ⟨vs, rfl, hM, j4⟩ := hJ
      replace hK := Lib.hid hK
      replace hM := Lib.hid hM
      rw [HG.out] at j4
      simp [Region.binds] at haf
      have e41 := ((j4 41 (by simp [haf])).2.2 (by decide) (by decide)).trans E41.out
      replace j4 := Lib.hid j4
      clear haf hfb
      rw [HLIT.out]
      go_simp
      exact hK.out _ _ (RS.next (wv := wv) (vs := vs) 42 (x := .int .i64 ez) (by rw [HLIT.out]; simp only [upv, e41, Nat.reduceBEq, cond_true, cond_false]) (by rw [HG.out]; exact j4.out) hM.out (by rw [HG.out]; exact fun _ _ h => h) (by rw [HG.out]; exact ⟨fun h => absurd h (by decide), fun h => absurd h (by decide), fun _ _ => E42.out.symm⟩))
    · intro bf ac wv hfb haf hJ K' hK
      obtain ⟨vs, rfl, hM, j4⟩ := hJ
      replace hK := Lib.hid hK
      replace hM := Lib.hid hM
      rw [HG.out] at j4
      simp [Region.binds] at haf
      have e41 := ((j4 41 (by simp [haf])).2.2 (by decide) (by decide)).trans E41.out
      replace j4 := Lib.hid j4
      clear haf hfb
      rw [HLIT.out]
      go_simp
      exact hK.out _ _ (RS.next (wv := wv) (vs := vs) 43 (x := .int .i64 ez) (by rw [HLIT.out]; simp only [upv, e41, Nat.reduceBEq, cond_true, cond_false]) (by rw [HG.out]; exact j4.out) hM.out (by rw [HG.out]; exact fun _ _ h => h) (by rw [HG.out]; exact ⟨fun h => absurd h (by decide), fun h => absurd h (by decide), fun _ _ => E43.out.symm⟩))
    · intro bf ac wv hfb haf hJ K' hK
      obtain ⟨vs, rfl, hM, j4⟩ := hJ
      replace hK := Lib.hid hK
      replace hM := Lib.hid hM
      rw [HG.out] at j4
      simp [Region.binds] at haf
      have e41 := ((j4 41 (by simp [haf])).2.2 (by decide) (by decide)).trans E41.out
      have e42 := ((j4 42 (by simp [haf])).2.2 (by decide) (by decide)).trans E42.out
      have e43 := ((j4 43 (by simp [haf])).2.2 (by decide) (by decide)).trans E43.out
      replace j4 := Lib.hid j4
      clear haf hfb
      rw [HLIT.out]
      go_simp
      exact hK.out _ _ (RS.next (wv := wv) (vs := vs) 44 (x := .bool true) (by rw [HLIT.out]; simp only [upv, e41, e42, e43, Nat.reduceBEq, cond_true, cond_false]) (by rw [HG.out]; exact j4.out) hM.out (by rw [HG.out]; exact fun _ _ h => h) (by rw [HG.out]; exact ⟨fun h => absurd h (by decide), fun h => absurd h (by decide), fun _ _ => E44.out.symm⟩))
    · intro bf ac wv hfb haf hJ K' hK
      obtain ⟨vs, rfl, hM, j4⟩ := hJ
      replace hK := Lib.hid hK
      replace hM := Lib.hid hM
      rw [HG.out] at j4
      simp [Region.binds] at haf
      have e41 := ((j4 41 (by simp [haf])).2.2 (by decide) (by decide)).trans E41.out
      have e44 := ((j4 44 (by simp [haf])).2.2 (by decide) (by decide)).trans E44.out
      replace j4 := Lib.hid j4
      clear haf hfb
      rw [HLIT.out]
      go_simp
      exact hK.out _ _ (RS.next (wv := wv) (vs := vs) 45 (x := .bool true) (by rw [HLIT.out]; simp only [upv, e41, e44, Nat.reduceBEq, cond_true, cond_false]) (by rw [HG.out]; exact j4.out) hM.out (by rw [HG.out]; exact fun _ _ h => h) (by rw [HG.out]; exact ⟨fun h => absurd h (by decide), fun h => absurd h (by decide), fun _ _ => E45.out.symm⟩))
    · intro bf ac wv hfb haf hJ K' hK
      obtain ⟨vs, rfl, hM, j4⟩ := hJ
      replace hK := Lib.hid hK
      replace hM := Lib.hid hM
      rw [HG.out] at j4
      simp [Region.binds] at haf
      have e45 := ((j4 45 (by simp [haf])).2.2 (by decide) (by decide)).trans E45.out
      replace j4 := Lib.hid j4
      clear haf hfb
      rw [HLIT.out]
      go_simp
      exact hK.out _ _ (RS.next (wv := wv) (vs := vs) 46 (x := .bool true) (by rw [HLIT.out]; simp only [upv, e45, Nat.reduceBEq, cond_true, cond_false]) (by rw [HG.out]; exact j4.out) hM.out (by rw [HG.out]; exact fun _ _ h => h) (by rw [HG.out]; exact ⟨fun h => absurd h (by decide), fun h => absurd h (by decide), fun _ _ => E46.out.symm⟩))
    · intro bf ac wv hfb haf hJ K' hK
      obtain ⟨vs, rfl, hM, j4⟩ := hJ
      replace hK := Lib.hid hK
      replace hM := Lib.hid hM
      rw [HG.out] at j4
      simp [Region.binds] at haf
      have e46 := ((j4 46 (by simp [haf])).2.2 (by decide) (by decide)).trans E46.out
      replace j4 := Lib.hid j4
      clear haf hfb
      have x0 := (H242.out.step hM.out).c 0 rfl
      have x1 := (H242.out.step hM.out).c 1 rfl
      have x2 := (H242.out.step hM.out).c 2 rfl
      have x3 := (H242.out.step hM.out).c 3 rfl
      have x4 := (H242.out.step hM.out).c 4 rfl
      have x5 := (H242.out.step hM.out).c 5 rfl
      have xz := (H242.out.step hM.out).2.2
      rw [HLIT.out]
      go_simp
      exact hK.out _ _ (RS.next (wv := wv) (vs := vs) 47 (x := .agg #[.int .i64 m.v, .int .i64 m.c, .int .i64 m.s, .int .i64 m.r, .int .i64 m.t, .slice sa L.length sc]) (by rw [HLIT.out]; simp only [upv, e46, Nat.reduceBEq, cond_true, cond_false]) (by rw [HG.out]; exact j4.out) hM.out (by rw [HG.out]; exact fun _ _ h => h) (by rw [HG.out]; exact ⟨fun h => absurd h (by decide), fun h => absurd h (by decide), fun _ _ => E47.out.symm⟩))
    · intro bf ac wv hfb haf hJ K' hK
      obtain ⟨vs, rfl, hM, j4⟩ := hJ
      replace hK := Lib.hid hK
      replace hM := Lib.hid hM
      rw [HG.out] at j4
      simp [Region.binds] at haf
      have e46 := ((j4 46 (by simp [haf])).2.2 (by decide) (by decide)).trans E46.out
      have e47 := ((j4 47 (by simp [haf])).2.2 (by decide) (by decide)).trans E47.out
      replace j4 := Lib.hid j4
      clear haf hfb
      rw [HLIT.out]
      go_simp
      go_at_call 22
      refine (miss_any m _ L _ (H238.out.step hM.out) (by have := HFP.out.2.1; omega) (fun x hx => by have := HFP.out.1 x hx; omega)).mono ?_
      rintro e w4 ⟨vu, rfl, hu4, b4⟩
      exact hK.out _ _ (RS.next (wv := wv) (vs := vs) 48 (x := vu) (by rw [HLIT.out]; simp only [upv, e46, e47, Nat.reduceBEq, cond_true, cond_false]) (by rw [HG.out]; exact j4.out) (keep2 b4 hM.out) (by rw [HG.out]; exact fun k v h => ⟨fun q => (h.1 q).step b4, fun q => (h.2.1 q).step b4, h.2.2⟩) (by rw [HG.out]; exact ⟨fun _ => hu4, fun h => absurd h (by decide), fun h48 => absurd rfl h48⟩))
    · intro bf ac wv hfb haf hJ K' hK
      obtain ⟨vs, rfl, hM, j4⟩ := hJ
      replace hK := Lib.hid hK
      replace hM := Lib.hid hM
      rw [HG.out] at j4
      simp [Region.binds] at haf
      have e46 := ((j4 46 (by simp [haf])).2.2 (by decide) (by decide)).trans E46.out
      replace j4 := Lib.hid j4
      clear haf hfb
      have x0 := (H242.out.step hM.out).c 0 rfl
      have x1 := (H242.out.step hM.out).c 1 rfl
      have x2 := (H242.out.step hM.out).c 2 rfl
      have x3 := (H242.out.step hM.out).c 3 rfl
      have x4 := (H242.out.step hM.out).c 4 rfl
      have x5 := (H242.out.step hM.out).c 5 rfl
      have xz := (H242.out.step hM.out).2.2
      rw [HLIT.out]
      go_simp
      exact hK.out _ _ (RS.next (wv := wv) (vs := vs) 49 (x := .agg #[.int .i64 m.v, .int .i64 m.c, .int .i64 m.s, .int .i64 m.r, .int .i64 m.t, .slice sa L.length sc]) (by rw [HLIT.out]; simp only [upv, e46, Nat.reduceBEq, cond_true, cond_false]) (by rw [HG.out]; exact j4.out) hM.out (by rw [HG.out]; exact fun _ _ h => h) (by rw [HG.out]; exact ⟨fun h => absurd h (by decide), fun h => absurd h (by decide), fun _ _ => E49.out.symm⟩))
    · intro bf ac wv hfb haf hJ K' hK
      obtain ⟨vs, rfl, hM, j4⟩ := hJ
      replace hK := Lib.hid hK
      replace hM := Lib.hid hM
      rw [HG.out] at j4
      simp [Region.binds] at haf
      have e46 := ((j4 46 (by simp [haf])).2.2 (by decide) (by decide)).trans E46.out
      have e49 := ((j4 49 (by simp [haf])).2.2 (by decide) (by decide)).trans E49.out
      replace j4 := Lib.hid j4
      clear haf hfb
      rw [HLIT.out]
      go_simp
      go_at_call 23
      refine (rmiss_any m _ L _ (H238.out.step hM.out) (by have := HFP.out.2.1; omega) (fun x hx => by have := HFP.out.1 x hx; omega)).mono ?_
      rintro e w4 ⟨vu, rfl, hu4, b4⟩
      exact hK.out _ _ (RS.next (wv := wv) (vs := vs) 50 (x := vu) (by rw [HLIT.out]; simp only [upv, e46, e49, Nat.reduceBEq, cond_true, cond_false]) (by rw [HG.out]; exact j4.out) (keep2 b4 hM.out) (by rw [HG.out]; exact fun k v h => ⟨fun q => (h.1 q).step b4, fun q => (h.2.1 q).step b4, h.2.2⟩) (by rw [HG.out]; exact ⟨fun h => absurd h (by decide), fun _ => hu4, fun h48 => fun h50 => absurd rfl h50⟩))
    · intro bf ac wv hfb haf hJ K' hK
      obtain ⟨vs, rfl, hM, j4⟩ := hJ
      replace hK := Lib.hid hK
      replace hM := Lib.hid hM
      rw [HG.out] at j4
      simp [Region.binds] at haf
      have e46 := ((j4 46 (by simp [haf])).2.2 (by decide) (by decide)).trans E46.out
      have e48 := (j4 48 (by simp [haf])).1 rfl
      have e50 := (j4 50 (by simp [haf])).2.1 rfl
      replace j4 := Lib.hid j4
      clear haf hfb
      replace e48 := Lib.hid e48
      replace e50 := Lib.hid e50
      rw [HLIT.out]
      go_simp
      go_at_call 21
      refine (intsB_any _ _ (msB m L) _ e48.out e50.out).mono ?_
      rintro e w4 ⟨rfl, b4⟩
      exact hK.out _ _ (RS.next (wv := wv) (vs := vs) 51 (x := .bool true) (by rw [HLIT.out]; simp only [upv, e46, Nat.reduceBEq, cond_true, cond_false]) (by rw [HG.out]; exact j4.out) (keep2 b4 hM.out) (by rw [HG.out]; exact fun k v h => ⟨fun q => (h.1 q).step b4, fun q => (h.2.1 q).step b4, h.2.2⟩) (by rw [HG.out]; exact ⟨fun h => absurd h (by decide), fun h => absurd h (by decide), fun _ _ => E51.out.symm⟩))
    · intro bf ac wv hfb haf hJ K' hK
      obtain ⟨vs, rfl, hM, j4⟩ := hJ
      replace hK := Lib.hid hK
      replace hM := Lib.hid hM
      rw [HG.out] at j4
      simp [Region.binds] at haf
      have e46 := ((j4 46 (by simp [haf])).2.2 (by decide) (by decide)).trans E46.out
      have e51 := ((j4 51 (by simp [haf])).2.2 (by decide) (by decide)).trans E51.out
      replace j4 := Lib.hid j4
      clear haf hfb
      rw [HLIT.out]
      go_simp
      exact hK.out _ _ (RS.next (wv := wv) (vs := vs) 52 (x := .bool true) (by rw [HLIT.out]; simp only [upv, e46, e51, Nat.reduceBEq, cond_true, cond_false]) (by rw [HG.out]; exact j4.out) hM.out (by rw [HG.out]; exact fun _ _ h => h) (by rw [HG.out]; exact ⟨fun h => absurd h (by decide), fun h => absurd h (by decide), fun _ _ => E52.out.symm⟩))
    · intro bf ac wv hfb haf hJ K' hK
      obtain ⟨vs, rfl, hM, j4⟩ := hJ
      replace hK := Lib.hid hK
      replace hM := Lib.hid hM
      rw [HG.out] at j4
      simp [Region.binds] at haf
      have e52 := ((j4 52 (by simp [haf])).2.2 (by decide) (by decide)).trans E52.out
      replace j4 := Lib.hid j4
      clear haf hfb
      rw [HLIT.out]
      go_simp
      exact hK.out _ _ (RS.next (wv := wv) (vs := vs) 53 (x := .bool true) (by rw [HLIT.out]; simp only [upv, e52, Nat.reduceBEq, cond_true, cond_false]) (by rw [HG.out]; exact j4.out) hM.out (by rw [HG.out]; exact fun _ _ h => h) (by rw [HG.out]; exact ⟨fun h => absurd h (by decide), fun h => absurd h (by decide), fun _ _ => E53.out.symm⟩))
  · intro bf ac wv hall hJ
    obtain ⟨vs, rfl, hM, j4⟩ := hJ
    rw [HG.out] at j4
    have e9 := ((j4 53 (hall 53 (by decide))).2.2 (by decide) (by decide)).trans E53.out
    have HB9 := Lib.hid (keep2 hM H257.out)
    clear hM j4 hall
    rw [HLIT.out]
    dsimp only
    rw [e9]
    clear e9 HLIT HG
    generalize vs = us8
    go_wp2
    go_ret
    exact ⟨rfl, HB9.out⟩
theorem match_any (key ver s : Int) (v : Value) (D : List Int) (q m : Mf) (sv : Value) (L : List (List Int)) (i : Int) (dv : Value) (d : List Int) (pv : Value) (p : List Int) (w : World) (h : IntsAt w v D) (hcp : ∀ a n c, v = .slice a n c → n ≤ c) (hs : RowsAt w sv L) (hd : IntsAt w dv d) (hp : CapI w pv p) : Calls Try.prog 3 #[.int .i64 key, .int .i64 ver, .int .i64 s, v, .agg #[.int .i64 q.v, .int .i64 q.c, .int .i64 q.s, .int .i64 q.r, .int .i64 q.t], .agg #[.int .i64 m.v, .int .i64 m.c, .int .i64 m.s, .int .i64 m.r, .int .i64 m.t, sv], .agg #[.int .i64 i, dv, pv]] w (fun e w' => e = .returned (.bool true) ∧ Below w.heap.size w w') := by
  by_cases h1 : 200 < D.length
  · exact mat_long key ver s v D q m sv L i dv d pv p w h hcp hs hd hp h1
  · cases h2 : fwB L d p
    · exact mat_few key ver s v D q m sv L i dv d pv p w h hcp hs hd hp (by omega) h2
    · exact mat_go key ver s v D q m sv L i dv d pv p w h hcp hs hd hp (by omega) h2
end Go.Proofs.Yteodafhgfcbdpaa
