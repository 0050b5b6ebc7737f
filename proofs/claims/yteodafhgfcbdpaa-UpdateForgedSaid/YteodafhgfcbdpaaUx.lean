import Derived.Test.YteodafhgfcbdpaaTk
import Derived.Test.YteodafhgfcbdpaaUt
import Derived.Test.YteodafhgfcbdpaaUw
namespace Go.Proofs.Yteodafhgfcbdpaa
open Go.RowKit

theorem adL_len (m : Mf) (L : List (List Int)) (i : Int) (d p : List Int) : (adL m L i d p).length = L.length := by
  unfold adL
  split
  · rw [List.length_set]
  · rfl
theorem lists_app_keep (W : World) (n0 n1 : Nat) (A B : List (List Int)) (v u : Value) (ty : TypeId) (hA : ListsR n1 A v W) (hB : ListsR n0 B u W) (h0 : 0 < B.length) (h9 : A.length + B.length ≤ 1000) (hb : n1 ≤ W.heap.size) (hn : n0 ≤ n1) :
    ∃ v' w', (Builtin.append_ #[25, 25] ty #[v, u]).run Try.prog W = .ok v' w' ∧ ListsR n0 (A ++ B) v' w' ∧ Below n1 W w' := by
  obtain ⟨j0, ki, kz0, kz1, kz2⟩ := info_parts infoSl
  obtain ⟨xs, hx1, hx2⟩ := hA
  obtain ⟨ys, hy1, hy2⟩ := hB
  have hyl : ys.length = B.length := by have := hy1.1; omega
  have hxl : xs.length = A.length := by have := hx1.1; omega
  rcases hy1.2 with ⟨-, e⟩ | ⟨g, cap, cur, rfl, -, -⟩
  · omega
  have hcell : ∀ j z, ys[j]? = some z → W.cell? ((⟨g, 0, none⟩ : Addr).add j) = some z := fun j z hz => hy1.cells (g := g) rfl j z hz
  have hone : ∀ z ∈ ys, z.oneCell' = true := fun z hz => by
    obtain ⟨j, hj, rfl⟩ := List.getElem_of_mem hz
    obtain ⟨y, e1, e2, -⟩ := hy2 j (B[j]'(by omega)) (by simp [show j < B.length by omega])
    rw [List.getElem?_eq_getElem hj] at e1
    cases e1
    exact e2
  obtain ⟨v', w', h1, h2, h3, -, -⟩ := run_append_own_at (P := Try.prog) W n1 25 ty 22 j0 (.slice none 0 0) 1 24 Try.underlying25 ki kz0 kz1 kz2 rfl (by decide) v A.length xs hx1 ⟨g, 0, none⟩ B.length cap ys (by omega) hcell hone (by unfold maxLen; omega) (by omega) hb
  have ap : ∀ {n2 : Nat} {y : Value} {x : List Int}, W.ownsRow n2 3 1 y x.length (x.map (Value.int .i64)) → w'.ownsRow n2 3 1 y x.length (x.map (Value.int .i64)) := fun hy => row_grown hy h3 (fun k e => row_type hy hx1 (by decide) e)
  refine ⟨v', w', h1, ⟨xs ++ ys, by rw [List.length_append]; exact row_base h2 hn, fun i x hi => ?_⟩, (Below.refl n1 W).grown h3 hb (fun k e => row_own hx1 e)⟩
  by_cases hlt : i < A.length
  · rw [List.getElem?_append_left hlt] at hi
    obtain ⟨y, e1, e2, e3⟩ := hx2 i x hi
    exact ⟨y, by rw [List.getElem?_append_left (by omega)]; exact e1, e2, row_base (ap e3) hn⟩
  · rw [List.getElem?_append_right (by omega)] at hi
    obtain ⟨y, e1, e2, e3⟩ := hy2 (i - A.length) x hi
    exact ⟨y, by rw [List.getElem?_append_right (by omega), hxl]; exact e1, e2, ap e3⟩
set_option maxRecDepth 100000 in
set_option maxHeartbeats 8000000 in
theorem fg_long (key ver s : Int) (v : Value) (D : List Int) (i : Int) (dv : Value) (d : List Int) (pv : Value) (p : List Int) (w : World) (h : IntsAt w v D) (hcp : ∀ a n c, v = .slice a n c → n ≤ c) (hd : IntsAt w dv d) (hp : CapI w pv p) (hL : 200 < D.length) : Calls Try.prog 5 #[.int .i64 key, .int .i64 ver, .int .i64 s, v, .agg #[.int .i64 i, dv, pv]] w fun e w' => e = .returned (.bool true) ∧ Below w.heap.size w w' := by
  have H0 := Lib.hid (Below.refl w.heap.size w)
  have H1 := Lib.hid (h)
  have H2 := Lib.hid (hd)
  have H3 := Lib.hid (hp)
  have HV := Lib.hid h
  obtain ⟨va, vc, rfl, hm, -⟩ := h
  unfold maxLen at hm
  replace hm := Lib.hid hm
  have HCP := Lib.hid hcp
  replace hcp := Lib.hid (hcp _ _ _ rfl)
  obtain ⟨da, dc, rfl, hmd, -⟩ := hd
  obtain ⟨-, pa, pc, rfl, hpc⟩ := hp
  clear hmd hpc
  replace hL := Lib.hid hL
  have H4 := Lib.hid (H1.out.step (al w (.cells #[.int .i64 i, .slice da d.length dc, .slice pa p.length pc] 29)))
  clear H1
  have H5 := Lib.hid (H2.out.step (al w (.cells #[.int .i64 i, .slice da d.length dc, .slice pa p.length pc] 29)))
  clear H2
  have H6 := Lib.hid (H3.out.step (al w (.cells #[.int .i64 i, .slice da d.length dc, .slice pa p.length pc] 29)))
  clear H3
  have H7 := Lib.hid (keep2 (al w (.cells #[.int .i64 i, .slice da d.length dc, .slice pa p.length pc] 29)) H0.out)
  clear H0
  have H8 := Lib.hid (Cs.new w (w.heap.size) #[.int .i64 i, .slice da d.length dc, .slice pa p.length pc] 29 (by simp))
  go_enter Try.func5, Try.ntmps5
  have xp0 : (w.alloc (.cells #[.int .i64 i, .slice da d.length dc, .slice pa p.length pc] 29)).cell? ⟨(w.heap.size), 0, none⟩ = some (.int .i64 i) := H8.out.c 0 rfl
  have xp1 : (w.alloc (.cells #[.int .i64 i, .slice da d.length dc, .slice pa p.length pc] 29)).cell? ⟨(w.heap.size), 1, none⟩ = some (.slice da d.length dc) := H8.out.c 1 rfl
  have xp2 : (w.alloc (.cells #[.int .i64 i, .slice da d.length dc, .slice pa p.length pc] 29)).cell? ⟨(w.heap.size), 2, none⟩ = some (.slice pa p.length pc) := H8.out.c 2 rfl
  have zp : (w.heap.size) < (w.alloc (.cells #[.int .i64 i, .slice da d.length dc, .slice pa p.length pc] 29)).heap.size := H8.out.2.2
  go_wp2_with fail
  refine (head_any _).mono ?_
  rintro e u1 ⟨rfl, b1⟩
  clear xp0 xp1 xp2 zp
  have H9 := Lib.hid (H4.out.step b1)
  clear H4
  have H10 := Lib.hid (H5.out.step b1)
  clear H5
  have H11 := Lib.hid (H6.out.step b1)
  clear H6
  have H12 := Lib.hid (H8.out.step b1)
  clear H8
  have H13 := Lib.hid (keep2 b1 H7.out)
  clear H7
  clear b1
  have xp0 : u1.cell? ⟨(w.heap.size), 0, none⟩ = some (.int .i64 i) := H12.out.c 0 rfl
  have xp1 : u1.cell? ⟨(w.heap.size), 1, none⟩ = some (.slice da d.length dc) := H12.out.c 1 rfl
  have xp2 : u1.cell? ⟨(w.heap.size), 2, none⟩ = some (.slice pa p.length pc) := H12.out.c 2 rfl
  have zp : (w.heap.size) < u1.heap.size := H12.out.2.2
  have g1 : decide ((D.length : Int) > 200) = true := by simp; have := hL.out; omega
  have g1b : decide ((200 : Int) < (D.length : Int)) = true := by simp; have := hL.out; omega
  go_wp2
  go_ret
  exact ⟨rfl, H13.out⟩
set_option maxRecDepth 100000 in
set_option maxHeartbeats 8000000 in
theorem fg_pl (key ver s : Int) (v : Value) (D : List Int) (i : Int) (dv : Value) (d : List Int) (pv : Value) (p : List Int) (w : World) (h : IntsAt w v D) (hcp : ∀ a n c, v = .slice a n c → n ≤ c) (hd : IntsAt w dv d) (hp : CapI w pv p) (hL : D.length ≤ 200) (hX : 40 < d.length) : Calls Try.prog 5 #[.int .i64 key, .int .i64 ver, .int .i64 s, v, .agg #[.int .i64 i, dv, pv]] w fun e w' => e = .returned (.bool true) ∧ Below w.heap.size w w' := by
  have H0 := Lib.hid (Below.refl w.heap.size w)
  have H1 := Lib.hid (h)
  have H2 := Lib.hid (hd)
  have H3 := Lib.hid (hp)
  have HV := Lib.hid h
  obtain ⟨va, vc, rfl, hm, -⟩ := h
  unfold maxLen at hm
  replace hm := Lib.hid hm
  have HCP := Lib.hid hcp
  replace hcp := Lib.hid (hcp _ _ _ rfl)
  obtain ⟨da, dc, rfl, hmd, -⟩ := hd
  obtain ⟨-, pa, pc, rfl, hpc⟩ := hp
  clear hmd hpc
  replace hL := Lib.hid hL
  replace hX := Lib.hid hX
  have H4 := Lib.hid (H1.out.step (al w (.cells #[.int .i64 i, .slice da d.length dc, .slice pa p.length pc] 29)))
  clear H1
  have H5 := Lib.hid (H2.out.step (al w (.cells #[.int .i64 i, .slice da d.length dc, .slice pa p.length pc] 29)))
  clear H2
  have H6 := Lib.hid (H3.out.step (al w (.cells #[.int .i64 i, .slice da d.length dc, .slice pa p.length pc] 29)))
  clear H3
  have H7 := Lib.hid (keep2 (al w (.cells #[.int .i64 i, .slice da d.length dc, .slice pa p.length pc] 29)) H0.out)
  clear H0
  have H8 := Lib.hid (Cs.new w (w.heap.size) #[.int .i64 i, .slice da d.length dc, .slice pa p.length pc] 29 (by simp))
  go_enter Try.func5, Try.ntmps5
  have xp0 : (w.alloc (.cells #[.int .i64 i, .slice da d.length dc, .slice pa p.length pc] 29)).cell? ⟨(w.heap.size), 0, none⟩ = some (.int .i64 i) := H8.out.c 0 rfl
  have xp1 : (w.alloc (.cells #[.int .i64 i, .slice da d.length dc, .slice pa p.length pc] 29)).cell? ⟨(w.heap.size), 1, none⟩ = some (.slice da d.length dc) := H8.out.c 1 rfl
  have xp2 : (w.alloc (.cells #[.int .i64 i, .slice da d.length dc, .slice pa p.length pc] 29)).cell? ⟨(w.heap.size), 2, none⟩ = some (.slice pa p.length pc) := H8.out.c 2 rfl
  have zp : (w.heap.size) < (w.alloc (.cells #[.int .i64 i, .slice da d.length dc, .slice pa p.length pc] 29)).heap.size := H8.out.2.2
  go_wp2_with fail
  refine (head_any _).mono ?_
  rintro e u1 ⟨rfl, b1⟩
  clear xp0 xp1 xp2 zp
  have H9 := Lib.hid (H4.out.step b1)
  clear H4
  have H10 := Lib.hid (H5.out.step b1)
  clear H5
  have H11 := Lib.hid (H6.out.step b1)
  clear H6
  have H12 := Lib.hid (H8.out.step b1)
  clear H8
  have H13 := Lib.hid (keep2 b1 H7.out)
  clear H7
  clear b1
  have xp0 : u1.cell? ⟨(w.heap.size), 0, none⟩ = some (.int .i64 i) := H12.out.c 0 rfl
  have xp1 : u1.cell? ⟨(w.heap.size), 1, none⟩ = some (.slice da d.length dc) := H12.out.c 1 rfl
  have xp2 : u1.cell? ⟨(w.heap.size), 2, none⟩ = some (.slice pa p.length pc) := H12.out.c 2 rfl
  have zp : (w.heap.size) < u1.heap.size := H12.out.2.2
  have g1 : decide ((D.length : Int) > 200) = false := by simp; have := hL.out; omega
  have g1b : decide ((200 : Int) < (D.length : Int)) = false := by simp; have := hL.out; omega
  have g2 : decide ((d.length : Int) > 40) = true := by simp; have := hX.out; omega
  have g2b : decide ((40 : Int) < (d.length : Int)) = true := by simp; have := hX.out; omega
  go_wp2
  go_ret
  exact ⟨rfl, H13.out⟩
set_option maxRecDepth 100000 in
set_option maxHeartbeats 8000000 in
theorem fg_pp (key ver s : Int) (v : Value) (D : List Int) (i : Int) (dv : Value) (d : List Int) (pv : Value) (p : List Int) (w : World) (h : IntsAt w v D) (hcp : ∀ a n c, v = .slice a n c → n ≤ c) (hd : IntsAt w dv d) (hp : CapI w pv p) (hL : D.length ≤ 200) (hX : d.length ≤ 40) (hP : 30 < p.length) : Calls Try.prog 5 #[.int .i64 key, .int .i64 ver, .int .i64 s, v, .agg #[.int .i64 i, dv, pv]] w fun e w' => e = .returned (.bool true) ∧ Below w.heap.size w w' := by
  have H0 := Lib.hid (Below.refl w.heap.size w)
  have H1 := Lib.hid (h)
  have H2 := Lib.hid (hd)
  have H3 := Lib.hid (hp)
  have HV := Lib.hid h
  obtain ⟨va, vc, rfl, hm, -⟩ := h
  unfold maxLen at hm
  replace hm := Lib.hid hm
  have HCP := Lib.hid hcp
  replace hcp := Lib.hid (hcp _ _ _ rfl)
  obtain ⟨da, dc, rfl, hmd, -⟩ := hd
  obtain ⟨-, pa, pc, rfl, hpc⟩ := hp
  clear hmd hpc
  replace hL := Lib.hid hL
  replace hX := Lib.hid hX
  replace hP := Lib.hid hP
  have H4 := Lib.hid (H1.out.step (al w (.cells #[.int .i64 i, .slice da d.length dc, .slice pa p.length pc] 29)))
  clear H1
  have H5 := Lib.hid (H2.out.step (al w (.cells #[.int .i64 i, .slice da d.length dc, .slice pa p.length pc] 29)))
  clear H2
  have H6 := Lib.hid (H3.out.step (al w (.cells #[.int .i64 i, .slice da d.length dc, .slice pa p.length pc] 29)))
  clear H3
  have H7 := Lib.hid (keep2 (al w (.cells #[.int .i64 i, .slice da d.length dc, .slice pa p.length pc] 29)) H0.out)
  clear H0
  have H8 := Lib.hid (Cs.new w (w.heap.size) #[.int .i64 i, .slice da d.length dc, .slice pa p.length pc] 29 (by simp))
  go_enter Try.func5, Try.ntmps5
  have xp0 : (w.alloc (.cells #[.int .i64 i, .slice da d.length dc, .slice pa p.length pc] 29)).cell? ⟨(w.heap.size), 0, none⟩ = some (.int .i64 i) := H8.out.c 0 rfl
  have xp1 : (w.alloc (.cells #[.int .i64 i, .slice da d.length dc, .slice pa p.length pc] 29)).cell? ⟨(w.heap.size), 1, none⟩ = some (.slice da d.length dc) := H8.out.c 1 rfl
  have xp2 : (w.alloc (.cells #[.int .i64 i, .slice da d.length dc, .slice pa p.length pc] 29)).cell? ⟨(w.heap.size), 2, none⟩ = some (.slice pa p.length pc) := H8.out.c 2 rfl
  have zp : (w.heap.size) < (w.alloc (.cells #[.int .i64 i, .slice da d.length dc, .slice pa p.length pc] 29)).heap.size := H8.out.2.2
  go_wp2_with fail
  refine (head_any _).mono ?_
  rintro e u1 ⟨rfl, b1⟩
  clear xp0 xp1 xp2 zp
  have H9 := Lib.hid (H4.out.step b1)
  clear H4
  have H10 := Lib.hid (H5.out.step b1)
  clear H5
  have H11 := Lib.hid (H6.out.step b1)
  clear H6
  have H12 := Lib.hid (H8.out.step b1)
  clear H8
  have H13 := Lib.hid (keep2 b1 H7.out)
  clear H7
  clear b1
  have xp0 : u1.cell? ⟨(w.heap.size), 0, none⟩ = some (.int .i64 i) := H12.out.c 0 rfl
  have xp1 : u1.cell? ⟨(w.heap.size), 1, none⟩ = some (.slice da d.length dc) := H12.out.c 1 rfl
  have xp2 : u1.cell? ⟨(w.heap.size), 2, none⟩ = some (.slice pa p.length pc) := H12.out.c 2 rfl
  have zp : (w.heap.size) < u1.heap.size := H12.out.2.2
  have g1 : decide ((D.length : Int) > 200) = false := by simp; have := hL.out; omega
  have g1b : decide ((200 : Int) < (D.length : Int)) = false := by simp; have := hL.out; omega
  have g2 : decide ((d.length : Int) > 40) = false := by simp; have := hX.out; omega
  have g2b : decide ((40 : Int) < (d.length : Int)) = false := by simp; have := hX.out; omega
  have g3 : decide ((p.length : Int) > 30) = true := by simp; have := hP.out; omega
  have g3b : decide ((30 : Int) < (p.length : Int)) = true := by simp; have := hP.out; omega
  go_wp2
  go_ret
  exact ⟨rfl, H13.out⟩
set_option maxRecDepth 100000 in
set_option maxHeartbeats 8000000 in
theorem fg_bad (key ver s : Int) (v : Value) (D : List Int) (i : Int) (dv : Value) (d : List Int) (pv : Value) (p : List Int) (w : World) (h : IntsAt w v D) (hcp : ∀ a n c, v = .slice a n c → n ≤ c) (hd : IntsAt w dv d) (hp : CapI w pv p) (hL : D.length ≤ 200) (hX : d.length ≤ 40) (hP : p.length ≤ 30) (hN : spE key ver s D ≠ 0) : Calls Try.prog 5 #[.int .i64 key, .int .i64 ver, .int .i64 s, v, .agg #[.int .i64 i, dv, pv]] w fun e w' => e = .returned (.bool true) ∧ Below w.heap.size w w' := by
  have H0 := Lib.hid (Below.refl w.heap.size w)
  have H1 := Lib.hid (h)
  have H2 := Lib.hid (hd)
  have H3 := Lib.hid (hp)
  have HV := Lib.hid h
  obtain ⟨va, vc, rfl, hm, -⟩ := h
  unfold maxLen at hm
  replace hm := Lib.hid hm
  have HCP := Lib.hid hcp
  replace hcp := Lib.hid (hcp _ _ _ rfl)
  obtain ⟨da, dc, rfl, hmd, -⟩ := hd
  obtain ⟨-, pa, pc, rfl, hpc⟩ := hp
  clear hmd hpc
  replace hL := Lib.hid hL
  replace hX := Lib.hid hX
  replace hP := Lib.hid hP
  replace hN := Lib.hid hN
  have H4 := Lib.hid (H1.out.step (al w (.cells #[.int .i64 i, .slice da d.length dc, .slice pa p.length pc] 29)))
  clear H1
  have H5 := Lib.hid (H2.out.step (al w (.cells #[.int .i64 i, .slice da d.length dc, .slice pa p.length pc] 29)))
  clear H2
  have H6 := Lib.hid (H3.out.step (al w (.cells #[.int .i64 i, .slice da d.length dc, .slice pa p.length pc] 29)))
  clear H3
  have H7 := Lib.hid (keep2 (al w (.cells #[.int .i64 i, .slice da d.length dc, .slice pa p.length pc] 29)) H0.out)
  clear H0
  have H8 := Lib.hid (Cs.new w (w.heap.size) #[.int .i64 i, .slice da d.length dc, .slice pa p.length pc] 29 (by simp))
  go_enter Try.func5, Try.ntmps5
  have xp0 : (w.alloc (.cells #[.int .i64 i, .slice da d.length dc, .slice pa p.length pc] 29)).cell? ⟨(w.heap.size), 0, none⟩ = some (.int .i64 i) := H8.out.c 0 rfl
  have xp1 : (w.alloc (.cells #[.int .i64 i, .slice da d.length dc, .slice pa p.length pc] 29)).cell? ⟨(w.heap.size), 1, none⟩ = some (.slice da d.length dc) := H8.out.c 1 rfl
  have xp2 : (w.alloc (.cells #[.int .i64 i, .slice da d.length dc, .slice pa p.length pc] 29)).cell? ⟨(w.heap.size), 2, none⟩ = some (.slice pa p.length pc) := H8.out.c 2 rfl
  have zp : (w.heap.size) < (w.alloc (.cells #[.int .i64 i, .slice da d.length dc, .slice pa p.length pc] 29)).heap.size := H8.out.2.2
  go_wp2_with fail
  refine (head_any _).mono ?_
  rintro e u1 ⟨rfl, b1⟩
  clear xp0 xp1 xp2 zp
  have H9 := Lib.hid (H4.out.step b1)
  clear H4
  have H10 := Lib.hid (H5.out.step b1)
  clear H5
  have H11 := Lib.hid (H6.out.step b1)
  clear H6
  have H12 := Lib.hid (H8.out.step b1)
  clear H8
  have H13 := Lib.hid (keep2 b1 H7.out)
  clear H7
  clear b1
  have xp0 : u1.cell? ⟨(w.heap.size), 0, none⟩ = some (.int .i64 i) := H12.out.c 0 rfl
  have xp1 : u1.cell? ⟨(w.heap.size), 1, none⟩ = some (.slice da d.length dc) := H12.out.c 1 rfl
  have xp2 : u1.cell? ⟨(w.heap.size), 2, none⟩ = some (.slice pa p.length pc) := H12.out.c 2 rfl
  have zp : (w.heap.size) < u1.heap.size := H12.out.2.2
  have g1 : decide ((D.length : Int) > 200) = false := by simp; have := hL.out; omega
  have g1b : decide ((200 : Int) < (D.length : Int)) = false := by simp; have := hL.out; omega
  have g2 : decide ((d.length : Int) > 40) = false := by simp; have := hX.out; omega
  have g2b : decide ((40 : Int) < (d.length : Int)) = false := by simp; have := hX.out; omega
  have g3 : decide ((p.length : Int) > 30) = false := by simp; have := hP.out; omega
  have g3b : decide ((30 : Int) < (p.length : Int)) = false := by simp; have := hP.out; omega
  go_wp2_with fail
  clear g1 g1b g2 g2b g3 g3b
  refine (begun_n key ver s _ D _ H9.out HCP.out hN.out).mono ?_
  rintro e u2 ⟨pcv, sv, rfl, -, -, hn0, b2⟩
  clear xp0 xp1 xp2 zp
  have H14 := Lib.hid (H9.out.step b2)
  clear H9
  have H15 := Lib.hid (H10.out.step b2)
  clear H10
  have H16 := Lib.hid (H11.out.step b2)
  clear H11
  have H17 := Lib.hid (H12.out.step b2)
  clear H12
  have H18 := Lib.hid (keep2 b2 H13.out)
  clear H13
  clear b2
  dsimp only [zMf]
  obtain ⟨uba, ubc, rfl⟩ : ∃ (a : Option Addr) (c : Nat), sv = .slice a 0 c := by
    obtain ⟨a, c, e, -⟩ := hn0.1
    exact ⟨a, c, e⟩
  clear hn0
  have H19 := Lib.hid (H14.out.step (al u2 (.cells #[.int .i64 0, .int .i64 0, .int .i64 0, .int .i64 0, .int .i64 0, .slice uba 0 ubc] 27)))
  clear H14
  have H20 := Lib.hid (H15.out.step (al u2 (.cells #[.int .i64 0, .int .i64 0, .int .i64 0, .int .i64 0, .int .i64 0, .slice uba 0 ubc] 27)))
  clear H15
  have H21 := Lib.hid (H16.out.step (al u2 (.cells #[.int .i64 0, .int .i64 0, .int .i64 0, .int .i64 0, .int .i64 0, .slice uba 0 ubc] 27)))
  clear H16
  have H22 := Lib.hid (H17.out.step (al u2 (.cells #[.int .i64 0, .int .i64 0, .int .i64 0, .int .i64 0, .int .i64 0, .slice uba 0 ubc] 27)))
  clear H17
  have H23 := Lib.hid (keep2 (al u2 (.cells #[.int .i64 0, .int .i64 0, .int .i64 0, .int .i64 0, .int .i64 0, .slice uba 0 ubc] 27)) H18.out)
  clear H18
  have H24 := Lib.hid (Cs.new u2 (u2.heap.size) #[.int .i64 0, .int .i64 0, .int .i64 0, .int .i64 0, .int .i64 0, .slice uba 0 ubc] 27 (by simp))
  have xs0 : (u2.alloc (.cells #[.int .i64 0, .int .i64 0, .int .i64 0, .int .i64 0, .int .i64 0, .slice uba 0 ubc] 27)).cell? ⟨(u2.heap.size), 0, none⟩ = some (.int .i64 0) := H24.out.c 0 rfl
  have xs1 : (u2.alloc (.cells #[.int .i64 0, .int .i64 0, .int .i64 0, .int .i64 0, .int .i64 0, .slice uba 0 ubc] 27)).cell? ⟨(u2.heap.size), 1, none⟩ = some (.int .i64 0) := H24.out.c 1 rfl
  have xs2 : (u2.alloc (.cells #[.int .i64 0, .int .i64 0, .int .i64 0, .int .i64 0, .int .i64 0, .slice uba 0 ubc] 27)).cell? ⟨(u2.heap.size), 2, none⟩ = some (.int .i64 0) := H24.out.c 2 rfl
  have xs3 : (u2.alloc (.cells #[.int .i64 0, .int .i64 0, .int .i64 0, .int .i64 0, .int .i64 0, .slice uba 0 ubc] 27)).cell? ⟨(u2.heap.size), 3, none⟩ = some (.int .i64 0) := H24.out.c 3 rfl
  have xs4 : (u2.alloc (.cells #[.int .i64 0, .int .i64 0, .int .i64 0, .int .i64 0, .int .i64 0, .slice uba 0 ubc] 27)).cell? ⟨(u2.heap.size), 4, none⟩ = some (.int .i64 0) := H24.out.c 4 rfl
  have xs5 : (u2.alloc (.cells #[.int .i64 0, .int .i64 0, .int .i64 0, .int .i64 0, .int .i64 0, .slice uba 0 ubc] 27)).cell? ⟨(u2.heap.size), 5, none⟩ = some (.slice uba 0 ubc) := H24.out.c 5 rfl
  have zs : (u2.heap.size) < (u2.alloc (.cells #[.int .i64 0, .int .i64 0, .int .i64 0, .int .i64 0, .int .i64 0, .slice uba 0 ubc] 27)).heap.size := H24.out.2.2
  have xp0 : (u2.alloc (.cells #[.int .i64 0, .int .i64 0, .int .i64 0, .int .i64 0, .int .i64 0, .slice uba 0 ubc] 27)).cell? ⟨(w.heap.size), 0, none⟩ = some (.int .i64 i) := H22.out.c 0 rfl
  have xp1 : (u2.alloc (.cells #[.int .i64 0, .int .i64 0, .int .i64 0, .int .i64 0, .int .i64 0, .slice uba 0 ubc] 27)).cell? ⟨(w.heap.size), 1, none⟩ = some (.slice da d.length dc) := H22.out.c 1 rfl
  have xp2 : (u2.alloc (.cells #[.int .i64 0, .int .i64 0, .int .i64 0, .int .i64 0, .int .i64 0, .slice uba 0 ubc] 27)).cell? ⟨(w.heap.size), 2, none⟩ = some (.slice pa p.length pc) := H22.out.c 2 rfl
  have zp : (w.heap.size) < (u2.alloc (.cells #[.int .i64 0, .int .i64 0, .int .i64 0, .int .i64 0, .int .i64 0, .slice uba 0 ubc] 27)).heap.size := H22.out.2.2
  go_wp2
  go_ret
  exact ⟨rfl, H23.out⟩
set_option maxRecDepth 100000 in
set_option maxHeartbeats 8000000 in
theorem fg_a (key ver s : Int) (v : Value) (D : List Int) (i : Int) (dv : Value) (d : List Int) (pv : Value) (p : List Int) (w : World) (h : IntsAt w v D) (hcp : ∀ a n c, v = .slice a n c → n ≤ c) (hd : IntsAt w dv d) (hp : CapI w pv p) (hL : D.length ≤ 200) (hX : d.length ≤ 40) (hP : p.length ≤ 30) (hE : spE key ver s D = 0) (M : Mf) (l : List Pc) (n : Nat) (hM : spM key ver s D 0 = M) (hl : spL s D 0 = l) (hln : l.length = n) (hA : adE M (List.replicate n []) i d p = 24) : Calls Try.prog 5 #[.int .i64 key, .int .i64 ver, .int .i64 s, v, .agg #[.int .i64 i, dv, pv]] w fun e w' => e = .returned (.bool true) ∧ Below w.heap.size w w' := by
  have H0 := Lib.hid (Below.refl w.heap.size w)
  have H1 := Lib.hid (h)
  have H2 := Lib.hid (hd)
  have H3 := Lib.hid (hp)
  have HV := Lib.hid h
  obtain ⟨va, vc, rfl, hm, -⟩ := h
  unfold maxLen at hm
  replace hm := Lib.hid hm
  have HCP := Lib.hid hcp
  replace hcp := Lib.hid (hcp _ _ _ rfl)
  obtain ⟨da, dc, rfl, hmd, -⟩ := hd
  obtain ⟨-, pa, pc, rfl, hpc⟩ := hp
  clear hmd hpc
  replace hL := Lib.hid hL
  replace hX := Lib.hid hX
  replace hP := Lib.hid hP
  replace hE := Lib.hid hE
  replace hM := Lib.hid hM
  replace hl := Lib.hid hl
  replace hln := Lib.hid hln
  replace hA := Lib.hid hA
  have H4 := Lib.hid (H1.out.step (al w (.cells #[.int .i64 i, .slice da d.length dc, .slice pa p.length pc] 29)))
  clear H1
  have H5 := Lib.hid (H2.out.step (al w (.cells #[.int .i64 i, .slice da d.length dc, .slice pa p.length pc] 29)))
  clear H2
  have H6 := Lib.hid (H3.out.step (al w (.cells #[.int .i64 i, .slice da d.length dc, .slice pa p.length pc] 29)))
  clear H3
  have H7 := Lib.hid (keep2 (al w (.cells #[.int .i64 i, .slice da d.length dc, .slice pa p.length pc] 29)) H0.out)
  clear H0
  have H8 := Lib.hid (Cs.new w (w.heap.size) #[.int .i64 i, .slice da d.length dc, .slice pa p.length pc] 29 (by simp))
  go_enter Try.func5, Try.ntmps5
  have xp0 : (w.alloc (.cells #[.int .i64 i, .slice da d.length dc, .slice pa p.length pc] 29)).cell? ⟨(w.heap.size), 0, none⟩ = some (.int .i64 i) := H8.out.c 0 rfl
  have xp1 : (w.alloc (.cells #[.int .i64 i, .slice da d.length dc, .slice pa p.length pc] 29)).cell? ⟨(w.heap.size), 1, none⟩ = some (.slice da d.length dc) := H8.out.c 1 rfl
  have xp2 : (w.alloc (.cells #[.int .i64 i, .slice da d.length dc, .slice pa p.length pc] 29)).cell? ⟨(w.heap.size), 2, none⟩ = some (.slice pa p.length pc) := H8.out.c 2 rfl
  have zp : (w.heap.size) < (w.alloc (.cells #[.int .i64 i, .slice da d.length dc, .slice pa p.length pc] 29)).heap.size := H8.out.2.2
  go_wp2_with fail
  refine (head_any _).mono ?_
  rintro e u1 ⟨rfl, b1⟩
  clear xp0 xp1 xp2 zp
  have H9 := Lib.hid (H4.out.step b1)
  clear H4
  have H10 := Lib.hid (H5.out.step b1)
  clear H5
  have H11 := Lib.hid (H6.out.step b1)
  clear H6
  have H12 := Lib.hid (H8.out.step b1)
  clear H8
  have H13 := Lib.hid (keep2 b1 H7.out)
  clear H7
  clear b1
  have xp0 : u1.cell? ⟨(w.heap.size), 0, none⟩ = some (.int .i64 i) := H12.out.c 0 rfl
  have xp1 : u1.cell? ⟨(w.heap.size), 1, none⟩ = some (.slice da d.length dc) := H12.out.c 1 rfl
  have xp2 : u1.cell? ⟨(w.heap.size), 2, none⟩ = some (.slice pa p.length pc) := H12.out.c 2 rfl
  have zp : (w.heap.size) < u1.heap.size := H12.out.2.2
  have g1 : decide ((D.length : Int) > 200) = false := by simp; have := hL.out; omega
  have g1b : decide ((200 : Int) < (D.length : Int)) = false := by simp; have := hL.out; omega
  have g2 : decide ((d.length : Int) > 40) = false := by simp; have := hX.out; omega
  have g2b : decide ((40 : Int) < (d.length : Int)) = false := by simp; have := hX.out; omega
  have g3 : decide ((p.length : Int) > 30) = false := by simp; have := hP.out; omega
  have g3b : decide ((30 : Int) < (p.length : Int)) = false := by simp; have := hP.out; omega
  go_wp2_with fail
  clear g1 g1b g2 g2b g3 g3b
  refine (begun_y key ver s _ D _ H9.out HCP.out hE.out M l n hM.out hl.out hln.out).mono ?_
  rintro e u2 ⟨pcv, sv, rfl, hpc, h64, hn0, b2⟩
  clear xp0 xp1 xp2 zp
  have H14 := Lib.hid (H9.out.step b2)
  clear H9
  have H15 := Lib.hid (H10.out.step b2)
  clear H10
  have H16 := Lib.hid (H11.out.step b2)
  clear H11
  have H17 := Lib.hid (H12.out.step b2)
  clear H12
  have H18 := Lib.hid (keep2 b2 H13.out)
  clear H13
  clear b2
  replace h64 := Lib.hid h64
  have hpa := hpc.at (by have := h64.out; omega)
  obtain ⟨ua, uc, rfl⟩ : ∃ (a : Option Addr) (c : Nat), pcv = .slice a l.length c := by
    obtain ⟨a, c, e, -⟩ := hpa
    exact ⟨a, c, e⟩
  obtain ⟨uba, ubc, rfl⟩ : ∃ (a : Option Addr) (c : Nat), sv = .slice a n c := by
    obtain ⟨a, c, e, -⟩ := hn0.1
    rw [List.length_replicate] at e
    exact ⟨a, c, e⟩
  have H19 := Lib.hid (hpa)
  have H20 := Lib.hid (hn0.1)
  clear hpa hn0 hpc
  have H21 := Lib.hid (H14.out.step (al u2 (.cells #[.int .i64 M.v, .int .i64 M.c, .int .i64 M.s, .int .i64 M.r, .int .i64 M.t, .slice uba n ubc] 27)))
  clear H14
  have H22 := Lib.hid (H15.out.step (al u2 (.cells #[.int .i64 M.v, .int .i64 M.c, .int .i64 M.s, .int .i64 M.r, .int .i64 M.t, .slice uba n ubc] 27)))
  clear H15
  have H23 := Lib.hid (H16.out.step (al u2 (.cells #[.int .i64 M.v, .int .i64 M.c, .int .i64 M.s, .int .i64 M.r, .int .i64 M.t, .slice uba n ubc] 27)))
  clear H16
  have H24 := Lib.hid (H17.out.step (al u2 (.cells #[.int .i64 M.v, .int .i64 M.c, .int .i64 M.s, .int .i64 M.r, .int .i64 M.t, .slice uba n ubc] 27)))
  clear H17
  have H25 := Lib.hid (H19.out.step (al u2 (.cells #[.int .i64 M.v, .int .i64 M.c, .int .i64 M.s, .int .i64 M.r, .int .i64 M.t, .slice uba n ubc] 27)))
  clear H19
  have H26 := Lib.hid (H20.out.step (al u2 (.cells #[.int .i64 M.v, .int .i64 M.c, .int .i64 M.s, .int .i64 M.r, .int .i64 M.t, .slice uba n ubc] 27)))
  clear H20
  have H27 := Lib.hid (keep2 (al u2 (.cells #[.int .i64 M.v, .int .i64 M.c, .int .i64 M.s, .int .i64 M.r, .int .i64 M.t, .slice uba n ubc] 27)) H18.out)
  clear H18
  have H28 := Lib.hid (Cs.new u2 (u2.heap.size) #[.int .i64 M.v, .int .i64 M.c, .int .i64 M.s, .int .i64 M.r, .int .i64 M.t, .slice uba n ubc] 27 (by simp))
  have xs0 : (u2.alloc (.cells #[.int .i64 M.v, .int .i64 M.c, .int .i64 M.s, .int .i64 M.r, .int .i64 M.t, .slice uba n ubc] 27)).cell? ⟨(u2.heap.size), 0, none⟩ = some (.int .i64 M.v) := H28.out.c 0 rfl
  have xs1 : (u2.alloc (.cells #[.int .i64 M.v, .int .i64 M.c, .int .i64 M.s, .int .i64 M.r, .int .i64 M.t, .slice uba n ubc] 27)).cell? ⟨(u2.heap.size), 1, none⟩ = some (.int .i64 M.c) := H28.out.c 1 rfl
  have xs2 : (u2.alloc (.cells #[.int .i64 M.v, .int .i64 M.c, .int .i64 M.s, .int .i64 M.r, .int .i64 M.t, .slice uba n ubc] 27)).cell? ⟨(u2.heap.size), 2, none⟩ = some (.int .i64 M.s) := H28.out.c 2 rfl
  have xs3 : (u2.alloc (.cells #[.int .i64 M.v, .int .i64 M.c, .int .i64 M.s, .int .i64 M.r, .int .i64 M.t, .slice uba n ubc] 27)).cell? ⟨(u2.heap.size), 3, none⟩ = some (.int .i64 M.r) := H28.out.c 3 rfl
  have xs4 : (u2.alloc (.cells #[.int .i64 M.v, .int .i64 M.c, .int .i64 M.s, .int .i64 M.r, .int .i64 M.t, .slice uba n ubc] 27)).cell? ⟨(u2.heap.size), 4, none⟩ = some (.int .i64 M.t) := H28.out.c 4 rfl
  have xs5 : (u2.alloc (.cells #[.int .i64 M.v, .int .i64 M.c, .int .i64 M.s, .int .i64 M.r, .int .i64 M.t, .slice uba n ubc] 27)).cell? ⟨(u2.heap.size), 5, none⟩ = some (.slice uba n ubc) := H28.out.c 5 rfl
  have zs : (u2.heap.size) < (u2.alloc (.cells #[.int .i64 M.v, .int .i64 M.c, .int .i64 M.s, .int .i64 M.r, .int .i64 M.t, .slice uba n ubc] 27)).heap.size := H28.out.2.2
  have xp0 : (u2.alloc (.cells #[.int .i64 M.v, .int .i64 M.c, .int .i64 M.s, .int .i64 M.r, .int .i64 M.t, .slice uba n ubc] 27)).cell? ⟨(w.heap.size), 0, none⟩ = some (.int .i64 i) := H24.out.c 0 rfl
  have xp1 : (u2.alloc (.cells #[.int .i64 M.v, .int .i64 M.c, .int .i64 M.s, .int .i64 M.r, .int .i64 M.t, .slice uba n ubc] 27)).cell? ⟨(w.heap.size), 1, none⟩ = some (.slice da d.length dc) := H24.out.c 1 rfl
  have xp2 : (u2.alloc (.cells #[.int .i64 M.v, .int .i64 M.c, .int .i64 M.s, .int .i64 M.r, .int .i64 M.t, .slice uba n ubc] 27)).cell? ⟨(w.heap.size), 2, none⟩ = some (.slice pa p.length pc) := H24.out.c 2 rfl
  have zp : (w.heap.size) < (u2.alloc (.cells #[.int .i64 M.v, .int .i64 M.c, .int .i64 M.s, .int .i64 M.r, .int .i64 M.t, .slice uba n ubc] 27)).heap.size := H24.out.2.2
  go_wp2_with fail
  obtain ⟨L1, hL1⟩ : ∃ z, adL M (List.replicate n []) i d p = z := ⟨_, rfl⟩
  have HL1 := Lib.hid hL1
  have HN9 := Lib.hid (show n ≤ 64 by rw [← hln.out]; exact h64.out)
  refine (add_any M i _ (List.replicate n []) _ d _ p _ H26.out H22.out H23.out (by rw [List.length_replicate]; have := HN9.out; omega) (fun x hx => by rw [List.eq_of_mem_replicate hx]; simp) (by have := hX.out; omega) hA.out hL1).mono ?_
  rintro e u3 ⟨tv, n9, rfl, -, ho, b3⟩
  clear xs0 xs1 xs2 xs3 xs4 xs5 zs xp0 xp1 xp2 zp
  have H29 := Lib.hid (H21.out.step b3)
  clear H21
  have H30 := Lib.hid (H22.out.step b3)
  clear H22
  have H31 := Lib.hid (H23.out.step b3)
  clear H23
  have H32 := Lib.hid (H24.out.step b3)
  clear H24
  have H33 := Lib.hid (H25.out.step b3)
  clear H25
  have H34 := Lib.hid (H26.out.step b3)
  clear H26
  have H35 := Lib.hid (H28.out.step b3)
  clear H28
  have H36 := Lib.hid (keep2 b3 H27.out)
  clear H27
  clear b3
  clear hL1
  have HLL := Lib.hid (show L1.length = n by rw [← HL1.out, adL_len, List.length_replicate])
  obtain ⟨ra, rc, rfl⟩ : ∃ (a : Option Addr) (c : Nat), tv = .slice a n c := by
    obtain ⟨a, c, e, -⟩ := ho
    rw [HLL.out] at e
    exact ⟨a, c, e⟩
  have hr0 := ho.rows
  rw [show L1 = List.replicate n [] by rw [← HL1.out]; unfold adL; rw [if_neg (fun q => absurd (hA.out.symm.trans q) (by decide))]] at hr0
  have H37 := Lib.hid (hr0)
  clear hr0
  clear ho
  have H38 := Lib.hid (H29.out.step (al u3 (.cells #[.int .i64 M.v, .int .i64 M.c, .int .i64 M.s, .int .i64 M.r, .int .i64 M.t, .slice ra n rc] 27)))
  clear H29
  have H39 := Lib.hid (H30.out.step (al u3 (.cells #[.int .i64 M.v, .int .i64 M.c, .int .i64 M.s, .int .i64 M.r, .int .i64 M.t, .slice ra n rc] 27)))
  clear H30
  have H40 := Lib.hid (H31.out.step (al u3 (.cells #[.int .i64 M.v, .int .i64 M.c, .int .i64 M.s, .int .i64 M.r, .int .i64 M.t, .slice ra n rc] 27)))
  clear H31
  have H41 := Lib.hid (H32.out.step (al u3 (.cells #[.int .i64 M.v, .int .i64 M.c, .int .i64 M.s, .int .i64 M.r, .int .i64 M.t, .slice ra n rc] 27)))
  clear H32
  have H42 := Lib.hid (H33.out.step (al u3 (.cells #[.int .i64 M.v, .int .i64 M.c, .int .i64 M.s, .int .i64 M.r, .int .i64 M.t, .slice ra n rc] 27)))
  clear H33
  have H43 := Lib.hid (H34.out.step (al u3 (.cells #[.int .i64 M.v, .int .i64 M.c, .int .i64 M.s, .int .i64 M.r, .int .i64 M.t, .slice ra n rc] 27)))
  clear H34
  have H44 := Lib.hid (H35.out.step (al u3 (.cells #[.int .i64 M.v, .int .i64 M.c, .int .i64 M.s, .int .i64 M.r, .int .i64 M.t, .slice ra n rc] 27)))
  clear H35
  have H45 := Lib.hid (H37.out.step (al u3 (.cells #[.int .i64 M.v, .int .i64 M.c, .int .i64 M.s, .int .i64 M.r, .int .i64 M.t, .slice ra n rc] 27)))
  clear H37
  have H46 := Lib.hid (keep2 (al u3 (.cells #[.int .i64 M.v, .int .i64 M.c, .int .i64 M.s, .int .i64 M.r, .int .i64 M.t, .slice ra n rc] 27)) H36.out)
  clear H36
  have H47 := Lib.hid (Cs.new u3 (u3.heap.size) #[.int .i64 M.v, .int .i64 M.c, .int .i64 M.s, .int .i64 M.r, .int .i64 M.t, .slice ra n rc] 27 (by simp))
  have xs0 : (u3.alloc (.cells #[.int .i64 M.v, .int .i64 M.c, .int .i64 M.s, .int .i64 M.r, .int .i64 M.t, .slice ra n rc] 27)).cell? ⟨(u2.heap.size), 0, none⟩ = some (.int .i64 M.v) := H44.out.c 0 rfl
  have xs1 : (u3.alloc (.cells #[.int .i64 M.v, .int .i64 M.c, .int .i64 M.s, .int .i64 M.r, .int .i64 M.t, .slice ra n rc] 27)).cell? ⟨(u2.heap.size), 1, none⟩ = some (.int .i64 M.c) := H44.out.c 1 rfl
  have xs2 : (u3.alloc (.cells #[.int .i64 M.v, .int .i64 M.c, .int .i64 M.s, .int .i64 M.r, .int .i64 M.t, .slice ra n rc] 27)).cell? ⟨(u2.heap.size), 2, none⟩ = some (.int .i64 M.s) := H44.out.c 2 rfl
  have xs3 : (u3.alloc (.cells #[.int .i64 M.v, .int .i64 M.c, .int .i64 M.s, .int .i64 M.r, .int .i64 M.t, .slice ra n rc] 27)).cell? ⟨(u2.heap.size), 3, none⟩ = some (.int .i64 M.r) := H44.out.c 3 rfl
  have xs4 : (u3.alloc (.cells #[.int .i64 M.v, .int .i64 M.c, .int .i64 M.s, .int .i64 M.r, .int .i64 M.t, .slice ra n rc] 27)).cell? ⟨(u2.heap.size), 4, none⟩ = some (.int .i64 M.t) := H44.out.c 4 rfl
  have xs5 : (u3.alloc (.cells #[.int .i64 M.v, .int .i64 M.c, .int .i64 M.s, .int .i64 M.r, .int .i64 M.t, .slice ra n rc] 27)).cell? ⟨(u2.heap.size), 5, none⟩ = some (.slice uba n ubc) := H44.out.c 5 rfl
  have zs : (u2.heap.size) < (u3.alloc (.cells #[.int .i64 M.v, .int .i64 M.c, .int .i64 M.s, .int .i64 M.r, .int .i64 M.t, .slice ra n rc] 27)).heap.size := H44.out.2.2
  have xp0 : (u3.alloc (.cells #[.int .i64 M.v, .int .i64 M.c, .int .i64 M.s, .int .i64 M.r, .int .i64 M.t, .slice ra n rc] 27)).cell? ⟨(w.heap.size), 0, none⟩ = some (.int .i64 i) := H41.out.c 0 rfl
  have xp1 : (u3.alloc (.cells #[.int .i64 M.v, .int .i64 M.c, .int .i64 M.s, .int .i64 M.r, .int .i64 M.t, .slice ra n rc] 27)).cell? ⟨(w.heap.size), 1, none⟩ = some (.slice da d.length dc) := H41.out.c 1 rfl
  have xp2 : (u3.alloc (.cells #[.int .i64 M.v, .int .i64 M.c, .int .i64 M.s, .int .i64 M.r, .int .i64 M.t, .slice ra n rc] 27)).cell? ⟨(w.heap.size), 2, none⟩ = some (.slice pa p.length pc) := H41.out.c 2 rfl
  have zp : (w.heap.size) < (u3.alloc (.cells #[.int .i64 M.v, .int .i64 M.c, .int .i64 M.s, .int .i64 M.r, .int .i64 M.t, .slice ra n rc] 27)).heap.size := H41.out.2.2
  have xt0 : (u3.alloc (.cells #[.int .i64 M.v, .int .i64 M.c, .int .i64 M.s, .int .i64 M.r, .int .i64 M.t, .slice ra n rc] 27)).cell? ⟨(u3.heap.size), 0, none⟩ = some (.int .i64 M.v) := H47.out.c 0 rfl
  have xt1 : (u3.alloc (.cells #[.int .i64 M.v, .int .i64 M.c, .int .i64 M.s, .int .i64 M.r, .int .i64 M.t, .slice ra n rc] 27)).cell? ⟨(u3.heap.size), 1, none⟩ = some (.int .i64 M.c) := H47.out.c 1 rfl
  have xt2 : (u3.alloc (.cells #[.int .i64 M.v, .int .i64 M.c, .int .i64 M.s, .int .i64 M.r, .int .i64 M.t, .slice ra n rc] 27)).cell? ⟨(u3.heap.size), 2, none⟩ = some (.int .i64 M.s) := H47.out.c 2 rfl
  have xt3 : (u3.alloc (.cells #[.int .i64 M.v, .int .i64 M.c, .int .i64 M.s, .int .i64 M.r, .int .i64 M.t, .slice ra n rc] 27)).cell? ⟨(u3.heap.size), 3, none⟩ = some (.int .i64 M.r) := H47.out.c 3 rfl
  have xt4 : (u3.alloc (.cells #[.int .i64 M.v, .int .i64 M.c, .int .i64 M.s, .int .i64 M.r, .int .i64 M.t, .slice ra n rc] 27)).cell? ⟨(u3.heap.size), 4, none⟩ = some (.int .i64 M.t) := H47.out.c 4 rfl
  have xt5 : (u3.alloc (.cells #[.int .i64 M.v, .int .i64 M.c, .int .i64 M.s, .int .i64 M.r, .int .i64 M.t, .slice ra n rc] 27)).cell? ⟨(u3.heap.size), 5, none⟩ = some (.slice ra n rc) := H47.out.c 5 rfl
  have zt : (u3.heap.size) < (u3.alloc (.cells #[.int .i64 M.v, .int .i64 M.c, .int .i64 M.s, .int .i64 M.r, .int .i64 M.t, .slice ra n rc] 27)).heap.size := H47.out.2.2
  go_wp2_with fail
  refine (same_slot M _ _ (List.replicate n []) _ H43.out H45.out (by rw [List.length_replicate]; have := HN9.out; omega)).mono ?_
  rintro e u4 ⟨rfl, b4⟩
  clear xs0 xs1 xs2 xs3 xs4 xs5 zs xp0 xp1 xp2 zp xt0 xt1 xt2 xt3 xt4 xt5 zt
  have H48 := Lib.hid (H38.out.step b4)
  clear H38
  have H49 := Lib.hid (H39.out.step b4)
  clear H39
  have H50 := Lib.hid (H40.out.step b4)
  clear H40
  have H51 := Lib.hid (H41.out.step b4)
  clear H41
  have H52 := Lib.hid (H42.out.step b4)
  clear H42
  have H53 := Lib.hid (H43.out.step b4)
  clear H43
  have H54 := Lib.hid (H44.out.step b4)
  clear H44
  have H55 := Lib.hid (H45.out.step b4)
  clear H45
  have H56 := Lib.hid (H47.out.step b4)
  clear H47
  have H57 := Lib.hid (keep2 b4 H46.out)
  clear H46
  clear b4
  have xs0 : u4.cell? ⟨(u2.heap.size), 0, none⟩ = some (.int .i64 M.v) := H54.out.c 0 rfl
  have xs1 : u4.cell? ⟨(u2.heap.size), 1, none⟩ = some (.int .i64 M.c) := H54.out.c 1 rfl
  have xs2 : u4.cell? ⟨(u2.heap.size), 2, none⟩ = some (.int .i64 M.s) := H54.out.c 2 rfl
  have xs3 : u4.cell? ⟨(u2.heap.size), 3, none⟩ = some (.int .i64 M.r) := H54.out.c 3 rfl
  have xs4 : u4.cell? ⟨(u2.heap.size), 4, none⟩ = some (.int .i64 M.t) := H54.out.c 4 rfl
  have xs5 : u4.cell? ⟨(u2.heap.size), 5, none⟩ = some (.slice uba n ubc) := H54.out.c 5 rfl
  have zs : (u2.heap.size) < u4.heap.size := H54.out.2.2
  have xp0 : u4.cell? ⟨(w.heap.size), 0, none⟩ = some (.int .i64 i) := H51.out.c 0 rfl
  have xp1 : u4.cell? ⟨(w.heap.size), 1, none⟩ = some (.slice da d.length dc) := H51.out.c 1 rfl
  have xp2 : u4.cell? ⟨(w.heap.size), 2, none⟩ = some (.slice pa p.length pc) := H51.out.c 2 rfl
  have zp : (w.heap.size) < u4.heap.size := H51.out.2.2
  have xt0 : u4.cell? ⟨(u3.heap.size), 0, none⟩ = some (.int .i64 M.v) := H56.out.c 0 rfl
  have xt1 : u4.cell? ⟨(u3.heap.size), 1, none⟩ = some (.int .i64 M.c) := H56.out.c 1 rfl
  have xt2 : u4.cell? ⟨(u3.heap.size), 2, none⟩ = some (.int .i64 M.s) := H56.out.c 2 rfl
  have xt3 : u4.cell? ⟨(u3.heap.size), 3, none⟩ = some (.int .i64 M.r) := H56.out.c 3 rfl
  have xt4 : u4.cell? ⟨(u3.heap.size), 4, none⟩ = some (.int .i64 M.t) := H56.out.c 4 rfl
  have xt5 : u4.cell? ⟨(u3.heap.size), 5, none⟩ = some (.slice ra n rc) := H56.out.c 5 rfl
  have zt : (u3.heap.size) < u4.heap.size := H56.out.2.2
  go_wp2
  go_ret
  exact ⟨rfl, H57.out⟩
set_option maxRecDepth 100000 in
set_option maxHeartbeats 8000000 in
theorem fg_b (key ver s : Int) (v : Value) (D : List Int) (i : Int) (dv : Value) (d : List Int) (pv : Value) (p : List Int) (w : World) (h : IntsAt w v D) (hcp : ∀ a n c, v = .slice a n c → n ≤ c) (hd : IntsAt w dv d) (hp : CapI w pv p) (hL : D.length ≤ 200) (hX : d.length ≤ 40) (hP : p.length ≤ 30) (hE : spE key ver s D = 0) (M : Mf) (l : List Pc) (n : Nat) (hM : spM key ver s D 0 = M) (hl : spL s D 0 = l) (hln : l.length = n) (hA : adE M (List.replicate n []) i d p = 17) : Calls Try.prog 5 #[.int .i64 key, .int .i64 ver, .int .i64 s, v, .agg #[.int .i64 i, dv, pv]] w fun e w' => e = .returned (.bool true) ∧ Below w.heap.size w w' := by
  have H0 := Lib.hid (Below.refl w.heap.size w)
  have H1 := Lib.hid (h)
  have H2 := Lib.hid (hd)
  have H3 := Lib.hid (hp)
  have HV := Lib.hid h
  obtain ⟨va, vc, rfl, hm, -⟩ := h
  unfold maxLen at hm
  replace hm := Lib.hid hm
  have HCP := Lib.hid hcp
  replace hcp := Lib.hid (hcp _ _ _ rfl)
  obtain ⟨da, dc, rfl, hmd, -⟩ := hd
  obtain ⟨-, pa, pc, rfl, hpc⟩ := hp
  clear hmd hpc
  replace hL := Lib.hid hL
  replace hX := Lib.hid hX
  replace hP := Lib.hid hP
  replace hE := Lib.hid hE
  replace hM := Lib.hid hM
  replace hl := Lib.hid hl
  replace hln := Lib.hid hln
  replace hA := Lib.hid hA
  have H4 := Lib.hid (H1.out.step (al w (.cells #[.int .i64 i, .slice da d.length dc, .slice pa p.length pc] 29)))
  clear H1
  have H5 := Lib.hid (H2.out.step (al w (.cells #[.int .i64 i, .slice da d.length dc, .slice pa p.length pc] 29)))
  clear H2
  have H6 := Lib.hid (H3.out.step (al w (.cells #[.int .i64 i, .slice da d.length dc, .slice pa p.length pc] 29)))
  clear H3
  have H7 := Lib.hid (keep2 (al w (.cells #[.int .i64 i, .slice da d.length dc, .slice pa p.length pc] 29)) H0.out)
  clear H0
  have H8 := Lib.hid (Cs.new w (w.heap.size) #[.int .i64 i, .slice da d.length dc, .slice pa p.length pc] 29 (by simp))
  go_enter Try.func5, Try.ntmps5
  have xp0 : (w.alloc (.cells #[.int .i64 i, .slice da d.length dc, .slice pa p.length pc] 29)).cell? ⟨(w.heap.size), 0, none⟩ = some (.int .i64 i) := H8.out.c 0 rfl
  have xp1 : (w.alloc (.cells #[.int .i64 i, .slice da d.length dc, .slice pa p.length pc] 29)).cell? ⟨(w.heap.size), 1, none⟩ = some (.slice da d.length dc) := H8.out.c 1 rfl
  have xp2 : (w.alloc (.cells #[.int .i64 i, .slice da d.length dc, .slice pa p.length pc] 29)).cell? ⟨(w.heap.size), 2, none⟩ = some (.slice pa p.length pc) := H8.out.c 2 rfl
  have zp : (w.heap.size) < (w.alloc (.cells #[.int .i64 i, .slice da d.length dc, .slice pa p.length pc] 29)).heap.size := H8.out.2.2
  go_wp2_with fail
  refine (head_any _).mono ?_
  rintro e u1 ⟨rfl, b1⟩
  clear xp0 xp1 xp2 zp
  have H9 := Lib.hid (H4.out.step b1)
  clear H4
  have H10 := Lib.hid (H5.out.step b1)
  clear H5
  have H11 := Lib.hid (H6.out.step b1)
  clear H6
  have H12 := Lib.hid (H8.out.step b1)
  clear H8
  have H13 := Lib.hid (keep2 b1 H7.out)
  clear H7
  clear b1
  have xp0 : u1.cell? ⟨(w.heap.size), 0, none⟩ = some (.int .i64 i) := H12.out.c 0 rfl
  have xp1 : u1.cell? ⟨(w.heap.size), 1, none⟩ = some (.slice da d.length dc) := H12.out.c 1 rfl
  have xp2 : u1.cell? ⟨(w.heap.size), 2, none⟩ = some (.slice pa p.length pc) := H12.out.c 2 rfl
  have zp : (w.heap.size) < u1.heap.size := H12.out.2.2
  have g1 : decide ((D.length : Int) > 200) = false := by simp; have := hL.out; omega
  have g1b : decide ((200 : Int) < (D.length : Int)) = false := by simp; have := hL.out; omega
  have g2 : decide ((d.length : Int) > 40) = false := by simp; have := hX.out; omega
  have g2b : decide ((40 : Int) < (d.length : Int)) = false := by simp; have := hX.out; omega
  have g3 : decide ((p.length : Int) > 30) = false := by simp; have := hP.out; omega
  have g3b : decide ((30 : Int) < (p.length : Int)) = false := by simp; have := hP.out; omega
  go_wp2_with fail
  clear g1 g1b g2 g2b g3 g3b
  refine (begun_y key ver s _ D _ H9.out HCP.out hE.out M l n hM.out hl.out hln.out).mono ?_
  rintro e u2 ⟨pcv, sv, rfl, hpc, h64, hn0, b2⟩
  clear xp0 xp1 xp2 zp
  have H14 := Lib.hid (H9.out.step b2)
  clear H9
  have H15 := Lib.hid (H10.out.step b2)
  clear H10
  have H16 := Lib.hid (H11.out.step b2)
  clear H11
  have H17 := Lib.hid (H12.out.step b2)
  clear H12
  have H18 := Lib.hid (keep2 b2 H13.out)
  clear H13
  clear b2
  replace h64 := Lib.hid h64
  have hpa := hpc.at (by have := h64.out; omega)
  obtain ⟨ua, uc, rfl⟩ : ∃ (a : Option Addr) (c : Nat), pcv = .slice a l.length c := by
    obtain ⟨a, c, e, -⟩ := hpa
    exact ⟨a, c, e⟩
  obtain ⟨uba, ubc, rfl⟩ : ∃ (a : Option Addr) (c : Nat), sv = .slice a n c := by
    obtain ⟨a, c, e, -⟩ := hn0.1
    rw [List.length_replicate] at e
    exact ⟨a, c, e⟩
  have H19 := Lib.hid (hpa)
  have H20 := Lib.hid (hn0.1)
  clear hpa hn0 hpc
  have H21 := Lib.hid (H14.out.step (al u2 (.cells #[.int .i64 M.v, .int .i64 M.c, .int .i64 M.s, .int .i64 M.r, .int .i64 M.t, .slice uba n ubc] 27)))
  clear H14
  have H22 := Lib.hid (H15.out.step (al u2 (.cells #[.int .i64 M.v, .int .i64 M.c, .int .i64 M.s, .int .i64 M.r, .int .i64 M.t, .slice uba n ubc] 27)))
  clear H15
  have H23 := Lib.hid (H16.out.step (al u2 (.cells #[.int .i64 M.v, .int .i64 M.c, .int .i64 M.s, .int .i64 M.r, .int .i64 M.t, .slice uba n ubc] 27)))
  clear H16
  have H24 := Lib.hid (H17.out.step (al u2 (.cells #[.int .i64 M.v, .int .i64 M.c, .int .i64 M.s, .int .i64 M.r, .int .i64 M.t, .slice uba n ubc] 27)))
  clear H17
  have H25 := Lib.hid (H19.out.step (al u2 (.cells #[.int .i64 M.v, .int .i64 M.c, .int .i64 M.s, .int .i64 M.r, .int .i64 M.t, .slice uba n ubc] 27)))
  clear H19
  have H26 := Lib.hid (H20.out.step (al u2 (.cells #[.int .i64 M.v, .int .i64 M.c, .int .i64 M.s, .int .i64 M.r, .int .i64 M.t, .slice uba n ubc] 27)))
  clear H20
  have H27 := Lib.hid (keep2 (al u2 (.cells #[.int .i64 M.v, .int .i64 M.c, .int .i64 M.s, .int .i64 M.r, .int .i64 M.t, .slice uba n ubc] 27)) H18.out)
  clear H18
  have H28 := Lib.hid (Cs.new u2 (u2.heap.size) #[.int .i64 M.v, .int .i64 M.c, .int .i64 M.s, .int .i64 M.r, .int .i64 M.t, .slice uba n ubc] 27 (by simp))
  have xs0 : (u2.alloc (.cells #[.int .i64 M.v, .int .i64 M.c, .int .i64 M.s, .int .i64 M.r, .int .i64 M.t, .slice uba n ubc] 27)).cell? ⟨(u2.heap.size), 0, none⟩ = some (.int .i64 M.v) := H28.out.c 0 rfl
  have xs1 : (u2.alloc (.cells #[.int .i64 M.v, .int .i64 M.c, .int .i64 M.s, .int .i64 M.r, .int .i64 M.t, .slice uba n ubc] 27)).cell? ⟨(u2.heap.size), 1, none⟩ = some (.int .i64 M.c) := H28.out.c 1 rfl
  have xs2 : (u2.alloc (.cells #[.int .i64 M.v, .int .i64 M.c, .int .i64 M.s, .int .i64 M.r, .int .i64 M.t, .slice uba n ubc] 27)).cell? ⟨(u2.heap.size), 2, none⟩ = some (.int .i64 M.s) := H28.out.c 2 rfl
  have xs3 : (u2.alloc (.cells #[.int .i64 M.v, .int .i64 M.c, .int .i64 M.s, .int .i64 M.r, .int .i64 M.t, .slice uba n ubc] 27)).cell? ⟨(u2.heap.size), 3, none⟩ = some (.int .i64 M.r) := H28.out.c 3 rfl
  have xs4 : (u2.alloc (.cells #[.int .i64 M.v, .int .i64 M.c, .int .i64 M.s, .int .i64 M.r, .int .i64 M.t, .slice uba n ubc] 27)).cell? ⟨(u2.heap.size), 4, none⟩ = some (.int .i64 M.t) := H28.out.c 4 rfl
  have xs5 : (u2.alloc (.cells #[.int .i64 M.v, .int .i64 M.c, .int .i64 M.s, .int .i64 M.r, .int .i64 M.t, .slice uba n ubc] 27)).cell? ⟨(u2.heap.size), 5, none⟩ = some (.slice uba n ubc) := H28.out.c 5 rfl
  have zs : (u2.heap.size) < (u2.alloc (.cells #[.int .i64 M.v, .int .i64 M.c, .int .i64 M.s, .int .i64 M.r, .int .i64 M.t, .slice uba n ubc] 27)).heap.size := H28.out.2.2
  have xp0 : (u2.alloc (.cells #[.int .i64 M.v, .int .i64 M.c, .int .i64 M.s, .int .i64 M.r, .int .i64 M.t, .slice uba n ubc] 27)).cell? ⟨(w.heap.size), 0, none⟩ = some (.int .i64 i) := H24.out.c 0 rfl
  have xp1 : (u2.alloc (.cells #[.int .i64 M.v, .int .i64 M.c, .int .i64 M.s, .int .i64 M.r, .int .i64 M.t, .slice uba n ubc] 27)).cell? ⟨(w.heap.size), 1, none⟩ = some (.slice da d.length dc) := H24.out.c 1 rfl
  have xp2 : (u2.alloc (.cells #[.int .i64 M.v, .int .i64 M.c, .int .i64 M.s, .int .i64 M.r, .int .i64 M.t, .slice uba n ubc] 27)).cell? ⟨(w.heap.size), 2, none⟩ = some (.slice pa p.length pc) := H24.out.c 2 rfl
  have zp : (w.heap.size) < (u2.alloc (.cells #[.int .i64 M.v, .int .i64 M.c, .int .i64 M.s, .int .i64 M.r, .int .i64 M.t, .slice uba n ubc] 27)).heap.size := H24.out.2.2
  go_wp2_with fail
  obtain ⟨L1, hL1⟩ : ∃ z, adL M (List.replicate n []) i d p = z := ⟨_, rfl⟩
  have HL1 := Lib.hid hL1
  have HN9 := Lib.hid (show n ≤ 64 by rw [← hln.out]; exact h64.out)
  refine (add_any M i _ (List.replicate n []) _ d _ p _ H26.out H22.out H23.out (by rw [List.length_replicate]; have := HN9.out; omega) (fun x hx => by rw [List.eq_of_mem_replicate hx]; simp) (by have := hX.out; omega) hA.out hL1).mono ?_
  rintro e u3 ⟨tv, n9, rfl, -, ho, b3⟩
  clear xs0 xs1 xs2 xs3 xs4 xs5 zs xp0 xp1 xp2 zp
  have H29 := Lib.hid (H21.out.step b3)
  clear H21
  have H30 := Lib.hid (H22.out.step b3)
  clear H22
  have H31 := Lib.hid (H23.out.step b3)
  clear H23
  have H32 := Lib.hid (H24.out.step b3)
  clear H24
  have H33 := Lib.hid (H25.out.step b3)
  clear H25
  have H34 := Lib.hid (H26.out.step b3)
  clear H26
  have H35 := Lib.hid (H28.out.step b3)
  clear H28
  have H36 := Lib.hid (keep2 b3 H27.out)
  clear H27
  clear b3
  clear hL1
  have HLL := Lib.hid (show L1.length = n by rw [← HL1.out, adL_len, List.length_replicate])
  obtain ⟨ra, rc, rfl⟩ : ∃ (a : Option Addr) (c : Nat), tv = .slice a n c := by
    obtain ⟨a, c, e, -⟩ := ho
    rw [HLL.out] at e
    exact ⟨a, c, e⟩
  have hr0 := ho.rows
  rw [show L1 = List.replicate n [] by rw [← HL1.out]; unfold adL; rw [if_neg (fun q => absurd (hA.out.symm.trans q) (by decide))]] at hr0
  have H37 := Lib.hid (hr0)
  clear hr0
  clear ho
  have H38 := Lib.hid (H29.out.step (al u3 (.cells #[.int .i64 M.v, .int .i64 M.c, .int .i64 M.s, .int .i64 M.r, .int .i64 M.t, .slice ra n rc] 27)))
  clear H29
  have H39 := Lib.hid (H30.out.step (al u3 (.cells #[.int .i64 M.v, .int .i64 M.c, .int .i64 M.s, .int .i64 M.r, .int .i64 M.t, .slice ra n rc] 27)))
  clear H30
  have H40 := Lib.hid (H31.out.step (al u3 (.cells #[.int .i64 M.v, .int .i64 M.c, .int .i64 M.s, .int .i64 M.r, .int .i64 M.t, .slice ra n rc] 27)))
  clear H31
  have H41 := Lib.hid (H32.out.step (al u3 (.cells #[.int .i64 M.v, .int .i64 M.c, .int .i64 M.s, .int .i64 M.r, .int .i64 M.t, .slice ra n rc] 27)))
  clear H32
  have H42 := Lib.hid (H33.out.step (al u3 (.cells #[.int .i64 M.v, .int .i64 M.c, .int .i64 M.s, .int .i64 M.r, .int .i64 M.t, .slice ra n rc] 27)))
  clear H33
  have H43 := Lib.hid (H34.out.step (al u3 (.cells #[.int .i64 M.v, .int .i64 M.c, .int .i64 M.s, .int .i64 M.r, .int .i64 M.t, .slice ra n rc] 27)))
  clear H34
  have H44 := Lib.hid (H35.out.step (al u3 (.cells #[.int .i64 M.v, .int .i64 M.c, .int .i64 M.s, .int .i64 M.r, .int .i64 M.t, .slice ra n rc] 27)))
  clear H35
  have H45 := Lib.hid (H37.out.step (al u3 (.cells #[.int .i64 M.v, .int .i64 M.c, .int .i64 M.s, .int .i64 M.r, .int .i64 M.t, .slice ra n rc] 27)))
  clear H37
  have H46 := Lib.hid (keep2 (al u3 (.cells #[.int .i64 M.v, .int .i64 M.c, .int .i64 M.s, .int .i64 M.r, .int .i64 M.t, .slice ra n rc] 27)) H36.out)
  clear H36
  have H47 := Lib.hid (Cs.new u3 (u3.heap.size) #[.int .i64 M.v, .int .i64 M.c, .int .i64 M.s, .int .i64 M.r, .int .i64 M.t, .slice ra n rc] 27 (by simp))
  have xs0 : (u3.alloc (.cells #[.int .i64 M.v, .int .i64 M.c, .int .i64 M.s, .int .i64 M.r, .int .i64 M.t, .slice ra n rc] 27)).cell? ⟨(u2.heap.size), 0, none⟩ = some (.int .i64 M.v) := H44.out.c 0 rfl
  have xs1 : (u3.alloc (.cells #[.int .i64 M.v, .int .i64 M.c, .int .i64 M.s, .int .i64 M.r, .int .i64 M.t, .slice ra n rc] 27)).cell? ⟨(u2.heap.size), 1, none⟩ = some (.int .i64 M.c) := H44.out.c 1 rfl
  have xs2 : (u3.alloc (.cells #[.int .i64 M.v, .int .i64 M.c, .int .i64 M.s, .int .i64 M.r, .int .i64 M.t, .slice ra n rc] 27)).cell? ⟨(u2.heap.size), 2, none⟩ = some (.int .i64 M.s) := H44.out.c 2 rfl
  have xs3 : (u3.alloc (.cells #[.int .i64 M.v, .int .i64 M.c, .int .i64 M.s, .int .i64 M.r, .int .i64 M.t, .slice ra n rc] 27)).cell? ⟨(u2.heap.size), 3, none⟩ = some (.int .i64 M.r) := H44.out.c 3 rfl
  have xs4 : (u3.alloc (.cells #[.int .i64 M.v, .int .i64 M.c, .int .i64 M.s, .int .i64 M.r, .int .i64 M.t, .slice ra n rc] 27)).cell? ⟨(u2.heap.size), 4, none⟩ = some (.int .i64 M.t) := H44.out.c 4 rfl
  have xs5 : (u3.alloc (.cells #[.int .i64 M.v, .int .i64 M.c, .int .i64 M.s, .int .i64 M.r, .int .i64 M.t, .slice ra n rc] 27)).cell? ⟨(u2.heap.size), 5, none⟩ = some (.slice uba n ubc) := H44.out.c 5 rfl
  have zs : (u2.heap.size) < (u3.alloc (.cells #[.int .i64 M.v, .int .i64 M.c, .int .i64 M.s, .int .i64 M.r, .int .i64 M.t, .slice ra n rc] 27)).heap.size := H44.out.2.2
  have xp0 : (u3.alloc (.cells #[.int .i64 M.v, .int .i64 M.c, .int .i64 M.s, .int .i64 M.r, .int .i64 M.t, .slice ra n rc] 27)).cell? ⟨(w.heap.size), 0, none⟩ = some (.int .i64 i) := H41.out.c 0 rfl
  have xp1 : (u3.alloc (.cells #[.int .i64 M.v, .int .i64 M.c, .int .i64 M.s, .int .i64 M.r, .int .i64 M.t, .slice ra n rc] 27)).cell? ⟨(w.heap.size), 1, none⟩ = some (.slice da d.length dc) := H41.out.c 1 rfl
  have xp2 : (u3.alloc (.cells #[.int .i64 M.v, .int .i64 M.c, .int .i64 M.s, .int .i64 M.r, .int .i64 M.t, .slice ra n rc] 27)).cell? ⟨(w.heap.size), 2, none⟩ = some (.slice pa p.length pc) := H41.out.c 2 rfl
  have zp : (w.heap.size) < (u3.alloc (.cells #[.int .i64 M.v, .int .i64 M.c, .int .i64 M.s, .int .i64 M.r, .int .i64 M.t, .slice ra n rc] 27)).heap.size := H41.out.2.2
  have xt0 : (u3.alloc (.cells #[.int .i64 M.v, .int .i64 M.c, .int .i64 M.s, .int .i64 M.r, .int .i64 M.t, .slice ra n rc] 27)).cell? ⟨(u3.heap.size), 0, none⟩ = some (.int .i64 M.v) := H47.out.c 0 rfl
  have xt1 : (u3.alloc (.cells #[.int .i64 M.v, .int .i64 M.c, .int .i64 M.s, .int .i64 M.r, .int .i64 M.t, .slice ra n rc] 27)).cell? ⟨(u3.heap.size), 1, none⟩ = some (.int .i64 M.c) := H47.out.c 1 rfl
  have xt2 : (u3.alloc (.cells #[.int .i64 M.v, .int .i64 M.c, .int .i64 M.s, .int .i64 M.r, .int .i64 M.t, .slice ra n rc] 27)).cell? ⟨(u3.heap.size), 2, none⟩ = some (.int .i64 M.s) := H47.out.c 2 rfl
  have xt3 : (u3.alloc (.cells #[.int .i64 M.v, .int .i64 M.c, .int .i64 M.s, .int .i64 M.r, .int .i64 M.t, .slice ra n rc] 27)).cell? ⟨(u3.heap.size), 3, none⟩ = some (.int .i64 M.r) := H47.out.c 3 rfl
  have xt4 : (u3.alloc (.cells #[.int .i64 M.v, .int .i64 M.c, .int .i64 M.s, .int .i64 M.r, .int .i64 M.t, .slice ra n rc] 27)).cell? ⟨(u3.heap.size), 4, none⟩ = some (.int .i64 M.t) := H47.out.c 4 rfl
  have xt5 : (u3.alloc (.cells #[.int .i64 M.v, .int .i64 M.c, .int .i64 M.s, .int .i64 M.r, .int .i64 M.t, .slice ra n rc] 27)).cell? ⟨(u3.heap.size), 5, none⟩ = some (.slice ra n rc) := H47.out.c 5 rfl
  have zt : (u3.heap.size) < (u3.alloc (.cells #[.int .i64 M.v, .int .i64 M.c, .int .i64 M.s, .int .i64 M.r, .int .i64 M.t, .slice ra n rc] 27)).heap.size := H47.out.2.2
  go_wp2_with fail
  refine (same_slot M _ _ (List.replicate n []) _ H43.out H45.out (by rw [List.length_replicate]; have := HN9.out; omega)).mono ?_
  rintro e u4 ⟨rfl, b4⟩
  clear xs0 xs1 xs2 xs3 xs4 xs5 zs xp0 xp1 xp2 zp xt0 xt1 xt2 xt3 xt4 xt5 zt
  have H48 := Lib.hid (H38.out.step b4)
  clear H38
  have H49 := Lib.hid (H39.out.step b4)
  clear H39
  have H50 := Lib.hid (H40.out.step b4)
  clear H40
  have H51 := Lib.hid (H41.out.step b4)
  clear H41
  have H52 := Lib.hid (H42.out.step b4)
  clear H42
  have H53 := Lib.hid (H43.out.step b4)
  clear H43
  have H54 := Lib.hid (H44.out.step b4)
  clear H44
  have H55 := Lib.hid (H45.out.step b4)
  clear H45
  have H56 := Lib.hid (H47.out.step b4)
  clear H47
  have H57 := Lib.hid (keep2 b4 H46.out)
  clear H46
  clear b4
  have xs0 : u4.cell? ⟨(u2.heap.size), 0, none⟩ = some (.int .i64 M.v) := H54.out.c 0 rfl
  have xs1 : u4.cell? ⟨(u2.heap.size), 1, none⟩ = some (.int .i64 M.c) := H54.out.c 1 rfl
  have xs2 : u4.cell? ⟨(u2.heap.size), 2, none⟩ = some (.int .i64 M.s) := H54.out.c 2 rfl
  have xs3 : u4.cell? ⟨(u2.heap.size), 3, none⟩ = some (.int .i64 M.r) := H54.out.c 3 rfl
  have xs4 : u4.cell? ⟨(u2.heap.size), 4, none⟩ = some (.int .i64 M.t) := H54.out.c 4 rfl
  have xs5 : u4.cell? ⟨(u2.heap.size), 5, none⟩ = some (.slice uba n ubc) := H54.out.c 5 rfl
  have zs : (u2.heap.size) < u4.heap.size := H54.out.2.2
  have xp0 : u4.cell? ⟨(w.heap.size), 0, none⟩ = some (.int .i64 i) := H51.out.c 0 rfl
  have xp1 : u4.cell? ⟨(w.heap.size), 1, none⟩ = some (.slice da d.length dc) := H51.out.c 1 rfl
  have xp2 : u4.cell? ⟨(w.heap.size), 2, none⟩ = some (.slice pa p.length pc) := H51.out.c 2 rfl
  have zp : (w.heap.size) < u4.heap.size := H51.out.2.2
  have xt0 : u4.cell? ⟨(u3.heap.size), 0, none⟩ = some (.int .i64 M.v) := H56.out.c 0 rfl
  have xt1 : u4.cell? ⟨(u3.heap.size), 1, none⟩ = some (.int .i64 M.c) := H56.out.c 1 rfl
  have xt2 : u4.cell? ⟨(u3.heap.size), 2, none⟩ = some (.int .i64 M.s) := H56.out.c 2 rfl
  have xt3 : u4.cell? ⟨(u3.heap.size), 3, none⟩ = some (.int .i64 M.r) := H56.out.c 3 rfl
  have xt4 : u4.cell? ⟨(u3.heap.size), 4, none⟩ = some (.int .i64 M.t) := H56.out.c 4 rfl
  have xt5 : u4.cell? ⟨(u3.heap.size), 5, none⟩ = some (.slice ra n rc) := H56.out.c 5 rfl
  have zt : (u3.heap.size) < u4.heap.size := H56.out.2.2
  go_wp2
  go_ret
  exact ⟨rfl, H57.out⟩
set_option maxRecDepth 100000 in
set_option maxHeartbeats 8000000 in
theorem fg_y (key ver s : Int) (v : Value) (D : List Int) (k : Nat) (dv : Value) (d : List Int) (pv : Value) (p : List Int) (w : World) (h : IntsAt w v D) (hcp : ∀ a n c, v = .slice a n c → n ≤ c) (hd : IntsAt w dv d) (hp : CapI w pv p) (hL : D.length ≤ 200) (hX : d.length ≤ 40) (hP : p.length ≤ 30) (hE : spE key ver s D = 0) (M : Mf) (l : List Pc) (n : Nat) (hM : spM key ver s D 0 = M) (hl : spL s D 0 = l) (hln : l.length = n) (hA : adE M (List.replicate n []) (k : Int) d p = 0) : Calls Try.prog 5 #[.int .i64 key, .int .i64 ver, .int .i64 s, v, .agg #[.int .i64 (k : Int), dv, pv]] w fun e w' => e = .returned (.bool true) ∧ Below w.heap.size w w' := by
  have H0 := Lib.hid (Below.refl w.heap.size w)
  have H1 := Lib.hid (h)
  have H2 := Lib.hid (hd)
  have H3 := Lib.hid (hp)
  have HV := Lib.hid h
  obtain ⟨va, vc, rfl, hm, -⟩ := h
  unfold maxLen at hm
  replace hm := Lib.hid hm
  have HCP := Lib.hid hcp
  replace hcp := Lib.hid (hcp _ _ _ rfl)
  obtain ⟨da, dc, rfl, hmd, -⟩ := hd
  obtain ⟨-, pa, pc, rfl, hpc⟩ := hp
  clear hmd hpc
  replace hL := Lib.hid hL
  replace hX := Lib.hid hX
  replace hP := Lib.hid hP
  replace hE := Lib.hid hE
  replace hM := Lib.hid hM
  replace hl := Lib.hid hl
  replace hln := Lib.hid hln
  replace hA := Lib.hid hA
  have H4 := Lib.hid (H1.out.step (al w (.cells #[.int .i64 (k : Int), .slice da d.length dc, .slice pa p.length pc] 29)))
  clear H1
  have H5 := Lib.hid (H2.out.step (al w (.cells #[.int .i64 (k : Int), .slice da d.length dc, .slice pa p.length pc] 29)))
  clear H2
  have H6 := Lib.hid (H3.out.step (al w (.cells #[.int .i64 (k : Int), .slice da d.length dc, .slice pa p.length pc] 29)))
  clear H3
  have H7 := Lib.hid (keep2 (al w (.cells #[.int .i64 (k : Int), .slice da d.length dc, .slice pa p.length pc] 29)) H0.out)
  clear H0
  have H8 := Lib.hid (Cs.new w (w.heap.size) #[.int .i64 (k : Int), .slice da d.length dc, .slice pa p.length pc] 29 (by simp))
  go_enter Try.func5, Try.ntmps5
  have xp0 : (w.alloc (.cells #[.int .i64 (k : Int), .slice da d.length dc, .slice pa p.length pc] 29)).cell? ⟨(w.heap.size), 0, none⟩ = some (.int .i64 (k : Int)) := H8.out.c 0 rfl
  have xp1 : (w.alloc (.cells #[.int .i64 (k : Int), .slice da d.length dc, .slice pa p.length pc] 29)).cell? ⟨(w.heap.size), 1, none⟩ = some (.slice da d.length dc) := H8.out.c 1 rfl
  have xp2 : (w.alloc (.cells #[.int .i64 (k : Int), .slice da d.length dc, .slice pa p.length pc] 29)).cell? ⟨(w.heap.size), 2, none⟩ = some (.slice pa p.length pc) := H8.out.c 2 rfl
  have zp : (w.heap.size) < (w.alloc (.cells #[.int .i64 (k : Int), .slice da d.length dc, .slice pa p.length pc] 29)).heap.size := H8.out.2.2
  go_wp2_with fail
  refine (head_any _).mono ?_
  rintro e u1 ⟨rfl, b1⟩
  clear xp0 xp1 xp2 zp
  have H9 := Lib.hid (H4.out.step b1)
  clear H4
  have H10 := Lib.hid (H5.out.step b1)
  clear H5
  have H11 := Lib.hid (H6.out.step b1)
  clear H6
  have H12 := Lib.hid (H8.out.step b1)
  clear H8
  have H13 := Lib.hid (keep2 b1 H7.out)
  clear H7
  clear b1
  have xp0 : u1.cell? ⟨(w.heap.size), 0, none⟩ = some (.int .i64 (k : Int)) := H12.out.c 0 rfl
  have xp1 : u1.cell? ⟨(w.heap.size), 1, none⟩ = some (.slice da d.length dc) := H12.out.c 1 rfl
  have xp2 : u1.cell? ⟨(w.heap.size), 2, none⟩ = some (.slice pa p.length pc) := H12.out.c 2 rfl
  have zp : (w.heap.size) < u1.heap.size := H12.out.2.2
  have g1 : decide ((D.length : Int) > 200) = false := by simp; have := hL.out; omega
  have g1b : decide ((200 : Int) < (D.length : Int)) = false := by simp; have := hL.out; omega
  have g2 : decide ((d.length : Int) > 40) = false := by simp; have := hX.out; omega
  have g2b : decide ((40 : Int) < (d.length : Int)) = false := by simp; have := hX.out; omega
  have g3 : decide ((p.length : Int) > 30) = false := by simp; have := hP.out; omega
  have g3b : decide ((30 : Int) < (p.length : Int)) = false := by simp; have := hP.out; omega
  go_wp2_with fail
  clear g1 g1b g2 g2b g3 g3b
  refine (begun_y key ver s _ D _ H9.out HCP.out hE.out M l n hM.out hl.out hln.out).mono ?_
  rintro e u2 ⟨pcv, sv, rfl, hpc, h64, hn0, b2⟩
  clear xp0 xp1 xp2 zp
  have H14 := Lib.hid (H9.out.step b2)
  clear H9
  have H15 := Lib.hid (H10.out.step b2)
  clear H10
  have H16 := Lib.hid (H11.out.step b2)
  clear H11
  have H17 := Lib.hid (H12.out.step b2)
  clear H12
  have H18 := Lib.hid (keep2 b2 H13.out)
  clear H13
  clear b2
  replace h64 := Lib.hid h64
  have hpa := hpc.at (by have := h64.out; omega)
  obtain ⟨ua, uc, rfl⟩ : ∃ (a : Option Addr) (c : Nat), pcv = .slice a l.length c := by
    obtain ⟨a, c, e, -⟩ := hpa
    exact ⟨a, c, e⟩
  obtain ⟨uba, ubc, rfl⟩ : ∃ (a : Option Addr) (c : Nat), sv = .slice a n c := by
    obtain ⟨a, c, e, -⟩ := hn0.1
    rw [List.length_replicate] at e
    exact ⟨a, c, e⟩
  have H19 := Lib.hid (hpa)
  have H20 := Lib.hid (hn0.1)
  clear hpa hn0 hpc
  have H21 := Lib.hid (H14.out.step (al u2 (.cells #[.int .i64 M.v, .int .i64 M.c, .int .i64 M.s, .int .i64 M.r, .int .i64 M.t, .slice uba n ubc] 27)))
  clear H14
  have H22 := Lib.hid (H15.out.step (al u2 (.cells #[.int .i64 M.v, .int .i64 M.c, .int .i64 M.s, .int .i64 M.r, .int .i64 M.t, .slice uba n ubc] 27)))
  clear H15
  have H23 := Lib.hid (H16.out.step (al u2 (.cells #[.int .i64 M.v, .int .i64 M.c, .int .i64 M.s, .int .i64 M.r, .int .i64 M.t, .slice uba n ubc] 27)))
  clear H16
  have H24 := Lib.hid (H17.out.step (al u2 (.cells #[.int .i64 M.v, .int .i64 M.c, .int .i64 M.s, .int .i64 M.r, .int .i64 M.t, .slice uba n ubc] 27)))
  clear H17
  have H25 := Lib.hid (H19.out.step (al u2 (.cells #[.int .i64 M.v, .int .i64 M.c, .int .i64 M.s, .int .i64 M.r, .int .i64 M.t, .slice uba n ubc] 27)))
  clear H19
  have H26 := Lib.hid (H20.out.step (al u2 (.cells #[.int .i64 M.v, .int .i64 M.c, .int .i64 M.s, .int .i64 M.r, .int .i64 M.t, .slice uba n ubc] 27)))
  clear H20
  have H27 := Lib.hid (keep2 (al u2 (.cells #[.int .i64 M.v, .int .i64 M.c, .int .i64 M.s, .int .i64 M.r, .int .i64 M.t, .slice uba n ubc] 27)) H18.out)
  clear H18
  have H28 := Lib.hid (Cs.new u2 (u2.heap.size) #[.int .i64 M.v, .int .i64 M.c, .int .i64 M.s, .int .i64 M.r, .int .i64 M.t, .slice uba n ubc] 27 (by simp))
  have xs0 : (u2.alloc (.cells #[.int .i64 M.v, .int .i64 M.c, .int .i64 M.s, .int .i64 M.r, .int .i64 M.t, .slice uba n ubc] 27)).cell? ⟨(u2.heap.size), 0, none⟩ = some (.int .i64 M.v) := H28.out.c 0 rfl
  have xs1 : (u2.alloc (.cells #[.int .i64 M.v, .int .i64 M.c, .int .i64 M.s, .int .i64 M.r, .int .i64 M.t, .slice uba n ubc] 27)).cell? ⟨(u2.heap.size), 1, none⟩ = some (.int .i64 M.c) := H28.out.c 1 rfl
  have xs2 : (u2.alloc (.cells #[.int .i64 M.v, .int .i64 M.c, .int .i64 M.s, .int .i64 M.r, .int .i64 M.t, .slice uba n ubc] 27)).cell? ⟨(u2.heap.size), 2, none⟩ = some (.int .i64 M.s) := H28.out.c 2 rfl
  have xs3 : (u2.alloc (.cells #[.int .i64 M.v, .int .i64 M.c, .int .i64 M.s, .int .i64 M.r, .int .i64 M.t, .slice uba n ubc] 27)).cell? ⟨(u2.heap.size), 3, none⟩ = some (.int .i64 M.r) := H28.out.c 3 rfl
  have xs4 : (u2.alloc (.cells #[.int .i64 M.v, .int .i64 M.c, .int .i64 M.s, .int .i64 M.r, .int .i64 M.t, .slice uba n ubc] 27)).cell? ⟨(u2.heap.size), 4, none⟩ = some (.int .i64 M.t) := H28.out.c 4 rfl
  have xs5 : (u2.alloc (.cells #[.int .i64 M.v, .int .i64 M.c, .int .i64 M.s, .int .i64 M.r, .int .i64 M.t, .slice uba n ubc] 27)).cell? ⟨(u2.heap.size), 5, none⟩ = some (.slice uba n ubc) := H28.out.c 5 rfl
  have zs : (u2.heap.size) < (u2.alloc (.cells #[.int .i64 M.v, .int .i64 M.c, .int .i64 M.s, .int .i64 M.r, .int .i64 M.t, .slice uba n ubc] 27)).heap.size := H28.out.2.2
  have xp0 : (u2.alloc (.cells #[.int .i64 M.v, .int .i64 M.c, .int .i64 M.s, .int .i64 M.r, .int .i64 M.t, .slice uba n ubc] 27)).cell? ⟨(w.heap.size), 0, none⟩ = some (.int .i64 (k : Int)) := H24.out.c 0 rfl
  have xp1 : (u2.alloc (.cells #[.int .i64 M.v, .int .i64 M.c, .int .i64 M.s, .int .i64 M.r, .int .i64 M.t, .slice uba n ubc] 27)).cell? ⟨(w.heap.size), 1, none⟩ = some (.slice da d.length dc) := H24.out.c 1 rfl
  have xp2 : (u2.alloc (.cells #[.int .i64 M.v, .int .i64 M.c, .int .i64 M.s, .int .i64 M.r, .int .i64 M.t, .slice uba n ubc] 27)).cell? ⟨(w.heap.size), 2, none⟩ = some (.slice pa p.length pc) := H24.out.c 2 rfl
  have zp : (w.heap.size) < (u2.alloc (.cells #[.int .i64 M.v, .int .i64 M.c, .int .i64 M.s, .int .i64 M.r, .int .i64 M.t, .slice uba n ubc] 27)).heap.size := H24.out.2.2
  go_wp2_with fail
  obtain ⟨L1, hL1⟩ : ∃ z, adL M (List.replicate n []) (k : Int) d p = z := ⟨_, rfl⟩
  have HL1 := Lib.hid hL1
  have HN9 := Lib.hid (show n ≤ 64 by rw [← hln.out]; exact h64.out)
  refine (add_any M (k : Int) _ (List.replicate n []) _ d _ p _ H26.out H22.out H23.out (by rw [List.length_replicate]; have := HN9.out; omega) (fun x hx => by rw [List.eq_of_mem_replicate hx]; simp) (by have := hX.out; omega) hA.out hL1).mono ?_
  rintro e u3 ⟨tv, n9, rfl, -, ho, b3⟩
  clear xs0 xs1 xs2 xs3 xs4 xs5 zs xp0 xp1 xp2 zp
  have H29 := Lib.hid (H21.out.step b3)
  clear H21
  have H30 := Lib.hid (H22.out.step b3)
  clear H22
  have H31 := Lib.hid (H23.out.step b3)
  clear H23
  have H32 := Lib.hid (H24.out.step b3)
  clear H24
  have H33 := Lib.hid (H25.out.step b3)
  clear H25
  have H34 := Lib.hid (H26.out.step b3)
  clear H26
  have H35 := Lib.hid (H28.out.step b3)
  clear H28
  have H36 := Lib.hid (keep2 b3 H27.out)
  clear H27
  clear b3
  clear hL1
  have HLL := Lib.hid (show L1.length = n by rw [← HL1.out, adL_len, List.length_replicate])
  obtain ⟨ra, rc, rfl⟩ : ∃ (a : Option Addr) (c : Nat), tv = .slice a n c := by
    obtain ⟨a, c, e, -⟩ := ho
    rw [HLL.out] at e
    exact ⟨a, c, e⟩
  clear ho
  have H37 := Lib.hid (H29.out.step (al u3 (.cells #[.int .i64 M.v, .int .i64 M.c, .int .i64 M.s, .int .i64 M.r, .int .i64 M.t, .slice ra n rc] 27)))
  clear H29
  have H38 := Lib.hid (H30.out.step (al u3 (.cells #[.int .i64 M.v, .int .i64 M.c, .int .i64 M.s, .int .i64 M.r, .int .i64 M.t, .slice ra n rc] 27)))
  clear H30
  have H39 := Lib.hid (H31.out.step (al u3 (.cells #[.int .i64 M.v, .int .i64 M.c, .int .i64 M.s, .int .i64 M.r, .int .i64 M.t, .slice ra n rc] 27)))
  clear H31
  have H40 := Lib.hid (H32.out.step (al u3 (.cells #[.int .i64 M.v, .int .i64 M.c, .int .i64 M.s, .int .i64 M.r, .int .i64 M.t, .slice ra n rc] 27)))
  clear H32
  have H41 := Lib.hid (H33.out.step (al u3 (.cells #[.int .i64 M.v, .int .i64 M.c, .int .i64 M.s, .int .i64 M.r, .int .i64 M.t, .slice ra n rc] 27)))
  clear H33
  have H42 := Lib.hid (H34.out.step (al u3 (.cells #[.int .i64 M.v, .int .i64 M.c, .int .i64 M.s, .int .i64 M.r, .int .i64 M.t, .slice ra n rc] 27)))
  clear H34
  have H43 := Lib.hid (H35.out.step (al u3 (.cells #[.int .i64 M.v, .int .i64 M.c, .int .i64 M.s, .int .i64 M.r, .int .i64 M.t, .slice ra n rc] 27)))
  clear H35
  have H44 := Lib.hid (keep2 (al u3 (.cells #[.int .i64 M.v, .int .i64 M.c, .int .i64 M.s, .int .i64 M.r, .int .i64 M.t, .slice ra n rc] 27)) H36.out)
  clear H36
  have H45 := Lib.hid (Cs.new u3 (u3.heap.size) #[.int .i64 M.v, .int .i64 M.c, .int .i64 M.s, .int .i64 M.r, .int .i64 M.t, .slice ra n rc] 27 (by simp))
  have xs0 : (u3.alloc (.cells #[.int .i64 M.v, .int .i64 M.c, .int .i64 M.s, .int .i64 M.r, .int .i64 M.t, .slice ra n rc] 27)).cell? ⟨(u2.heap.size), 0, none⟩ = some (.int .i64 M.v) := H43.out.c 0 rfl
  have xs1 : (u3.alloc (.cells #[.int .i64 M.v, .int .i64 M.c, .int .i64 M.s, .int .i64 M.r, .int .i64 M.t, .slice ra n rc] 27)).cell? ⟨(u2.heap.size), 1, none⟩ = some (.int .i64 M.c) := H43.out.c 1 rfl
  have xs2 : (u3.alloc (.cells #[.int .i64 M.v, .int .i64 M.c, .int .i64 M.s, .int .i64 M.r, .int .i64 M.t, .slice ra n rc] 27)).cell? ⟨(u2.heap.size), 2, none⟩ = some (.int .i64 M.s) := H43.out.c 2 rfl
  have xs3 : (u3.alloc (.cells #[.int .i64 M.v, .int .i64 M.c, .int .i64 M.s, .int .i64 M.r, .int .i64 M.t, .slice ra n rc] 27)).cell? ⟨(u2.heap.size), 3, none⟩ = some (.int .i64 M.r) := H43.out.c 3 rfl
  have xs4 : (u3.alloc (.cells #[.int .i64 M.v, .int .i64 M.c, .int .i64 M.s, .int .i64 M.r, .int .i64 M.t, .slice ra n rc] 27)).cell? ⟨(u2.heap.size), 4, none⟩ = some (.int .i64 M.t) := H43.out.c 4 rfl
  have xs5 : (u3.alloc (.cells #[.int .i64 M.v, .int .i64 M.c, .int .i64 M.s, .int .i64 M.r, .int .i64 M.t, .slice ra n rc] 27)).cell? ⟨(u2.heap.size), 5, none⟩ = some (.slice uba n ubc) := H43.out.c 5 rfl
  have zs : (u2.heap.size) < (u3.alloc (.cells #[.int .i64 M.v, .int .i64 M.c, .int .i64 M.s, .int .i64 M.r, .int .i64 M.t, .slice ra n rc] 27)).heap.size := H43.out.2.2
  have xp0 : (u3.alloc (.cells #[.int .i64 M.v, .int .i64 M.c, .int .i64 M.s, .int .i64 M.r, .int .i64 M.t, .slice ra n rc] 27)).cell? ⟨(w.heap.size), 0, none⟩ = some (.int .i64 (k : Int)) := H40.out.c 0 rfl
  have xp1 : (u3.alloc (.cells #[.int .i64 M.v, .int .i64 M.c, .int .i64 M.s, .int .i64 M.r, .int .i64 M.t, .slice ra n rc] 27)).cell? ⟨(w.heap.size), 1, none⟩ = some (.slice da d.length dc) := H40.out.c 1 rfl
  have xp2 : (u3.alloc (.cells #[.int .i64 M.v, .int .i64 M.c, .int .i64 M.s, .int .i64 M.r, .int .i64 M.t, .slice ra n rc] 27)).cell? ⟨(w.heap.size), 2, none⟩ = some (.slice pa p.length pc) := H40.out.c 2 rfl
  have zp : (w.heap.size) < (u3.alloc (.cells #[.int .i64 M.v, .int .i64 M.c, .int .i64 M.s, .int .i64 M.r, .int .i64 M.t, .slice ra n rc] 27)).heap.size := H40.out.2.2
  have xt0 : (u3.alloc (.cells #[.int .i64 M.v, .int .i64 M.c, .int .i64 M.s, .int .i64 M.r, .int .i64 M.t, .slice ra n rc] 27)).cell? ⟨(u3.heap.size), 0, none⟩ = some (.int .i64 M.v) := H45.out.c 0 rfl
  have xt1 : (u3.alloc (.cells #[.int .i64 M.v, .int .i64 M.c, .int .i64 M.s, .int .i64 M.r, .int .i64 M.t, .slice ra n rc] 27)).cell? ⟨(u3.heap.size), 1, none⟩ = some (.int .i64 M.c) := H45.out.c 1 rfl
  have xt2 : (u3.alloc (.cells #[.int .i64 M.v, .int .i64 M.c, .int .i64 M.s, .int .i64 M.r, .int .i64 M.t, .slice ra n rc] 27)).cell? ⟨(u3.heap.size), 2, none⟩ = some (.int .i64 M.s) := H45.out.c 2 rfl
  have xt3 : (u3.alloc (.cells #[.int .i64 M.v, .int .i64 M.c, .int .i64 M.s, .int .i64 M.r, .int .i64 M.t, .slice ra n rc] 27)).cell? ⟨(u3.heap.size), 3, none⟩ = some (.int .i64 M.r) := H45.out.c 3 rfl
  have xt4 : (u3.alloc (.cells #[.int .i64 M.v, .int .i64 M.c, .int .i64 M.s, .int .i64 M.r, .int .i64 M.t, .slice ra n rc] 27)).cell? ⟨(u3.heap.size), 4, none⟩ = some (.int .i64 M.t) := H45.out.c 4 rfl
  have xt5 : (u3.alloc (.cells #[.int .i64 M.v, .int .i64 M.c, .int .i64 M.s, .int .i64 M.r, .int .i64 M.t, .slice ra n rc] 27)).cell? ⟨(u3.heap.size), 5, none⟩ = some (.slice ra n rc) := H45.out.c 5 rfl
  have zt : (u3.heap.size) < (u3.alloc (.cells #[.int .i64 M.v, .int .i64 M.c, .int .i64 M.s, .int .i64 M.r, .int .i64 M.t, .slice ra n rc] 27)).heap.size := H45.out.2.2
  have HFM := Lib.hid (forged_main (i := (k : Int)) (d := d) (p := p) hE.out (n := n) (by rw [← hln.out, ← hl.out, spL_lenT]) (by rw [hM.out]; exact hA.out))
  have hkn : k < n := by have := HFM.out.2.1; omega
  have HKN := Lib.hid hkn
  obtain ⟨LL, hLL⟩ : ∃ z, chL s.toNat D = z := ⟨_, rfl⟩
  have HLX := Lib.hid (show l.map Pc.d = LL by rw [← hl.out, spL_map, hLL])
  have HLLn := Lib.hid (show LL.length = n by rw [← HLX.out, List.length_map, hln.out])
  have HLS := Lib.hid (show ∀ x ∈ LL, x.length ≤ 5000 from fun x hx => by
    rw [← hLL] at hx
    have h1 := chL_small hx
    have h2 := inB_iff.1 (spE_ok hE.out).2.2.1
    omega)
  rw [Int.toNat_natCast, hLL] at HFM
  clear hLL
  have hkl : k < l.length := by rw [hln.out]; exact hkn
  have HGK := Lib.hid (show l[k]? = some l[k] from List.getElem?_eq_getElem hkl)
  obtain ⟨x, hx⟩ : ∃ z9, l[k] = z9 := ⟨_, rfl⟩
  rw [hx] at HGK
  clear hx hkl
  have HXD := Lib.hid (show LL.getD k [] = x.d by rw [← HLX.out, List.getD_eq_getElem?_getD, List.getElem?_map, HGK.out]; rfl)
  rw [HXD.out] at HFM
  obtain ⟨b, off, e9, ya, yc, qa, qc, -, x0, -, xz, hy0, -⟩ := pcs_at H41.out HGK.out
  subst e9
  have HX0 := Lib.hid x0
  have HXZ := Lib.hid xz
  clear x0 xz
  have H46 := Lib.hid (hy0)
  clear hy0
  rw [hln.out]
  have t1 : ¬ (k : Int) < 0 := by omega
  have t2 : decide ((k : Int) < 0) = false := decide_eq_false t1
  have t3 : decide ((k : Int) ≥ (n : Int)) = false := decide_eq_false (by omega)
  have t4 : decide ((n : Int) ≤ (k : Int)) = false := t3
  have t5 : ¬ (n : Int) ≤ (k : Int) := by omega
  have t6 : ¬ n ≤ k := by omega
  have t7 : decide (n ≤ k) = false := decide_eq_false t6
  clear hkn
  go_upto_region 12 with fail
  clear xs0 xs1 xs2 xs3 xs4 xs5 zs xp0 xp1 xp2 zp xt0 xt1 xt2 xt3 xt4 xt5 zt
  clear t1 t2 t3 t4 t5 t6 t7
  obtain ⟨U3, hU3⟩ : ∃ z9, (u3.alloc (.cells #[.int .i64 M.v, .int .i64 M.c, .int .i64 M.s, .int .i64 M.r, .int .i64 M.t, .slice ra n rc] 27)) = z9 := ⟨_, rfl⟩
  rw [hU3] at H37 H38 H39 H40 H41 H42 H43 H45 H46 H44 HX0 HXZ ⊢
  clear hU3
  obtain ⟨lit, hlit⟩ : ∃ lit : (Nat → Value) → Act, lit = fun vs => { tmps := List.toArray (Value.int IntKind.i64 key :: Value.int IntKind.i64 ver :: Value.int IntKind.i64 s :: Value.slice va D.length vc :: Value.agg #[Value.int IntKind.i64 (k : Int), Value.slice da d.length dc, Value.slice pa p.length pc] :: undef :: undef :: undef :: undef :: Value.pointer (some { block := w.heap.size, off := 0 }) :: Value.bool false :: Value.bool true :: Value.pointer (some { block := u2.heap.size, off := 0 }) :: Value.slice (some { block := b, off := off }) n uc :: Value.bool true :: Value.pointer (some { block := u3.heap.size, off := 0 }) :: Value.int IntKind.i64 0 :: undef :: undef :: Value.bool true :: Value.slice va D.length vc :: Value.int IntKind.i64 (D.length : Int) :: Value.bool false :: Value.bool false :: Value.pointer (some { block := w.heap.size, off := 1 }) :: Value.slice da d.length dc :: Value.int IntKind.i64 (d.length : Int) :: Value.bool false :: Value.bool false :: Value.bool false :: Value.pointer (some { block := w.heap.size, off := 2 }) :: Value.slice pa p.length pc :: Value.int IntKind.i64 (p.length : Int) :: Value.bool false :: Value.bool false :: undef :: Value.tuple #[Value.agg #[Value.int IntKind.i64 M.v, Value.int IntKind.i64 M.c, Value.int IntKind.i64 M.s, Value.int IntKind.i64 M.r, Value.int IntKind.i64 M.t, Value.slice uba n ubc], Value.slice (some { block := b, off := off }) n uc, Value.bool true] :: Value.int IntKind.i64 key :: Value.int IntKind.i64 ver :: Value.int IntKind.i64 s :: Value.slice va D.length vc :: Value.tuple #[Value.agg #[Value.int IntKind.i64 M.v, Value.int IntKind.i64 M.c, Value.int IntKind.i64 M.s, Value.int IntKind.i64 M.r, Value.int IntKind.i64 M.t, Value.slice uba n ubc], Value.slice (some { block := b, off := off }) n uc, Value.bool true] :: Value.agg #[Value.int IntKind.i64 M.v, Value.int IntKind.i64 M.c, Value.int IntKind.i64 M.s, Value.int IntKind.i64 M.r, Value.int IntKind.i64 M.t, Value.slice uba n ubc] :: Value.slice (some { block := b, off := off }) n uc :: Value.bool true :: Value.bool true :: Value.bool false :: undef :: Value.tuple #[Value.agg #[Value.int IntKind.i64 M.v, Value.int IntKind.i64 M.c, Value.int IntKind.i64 M.s, Value.int IntKind.i64 M.r, Value.int IntKind.i64 M.t, Value.slice ra n rc], Value.int IntKind.i64 0] :: Value.agg #[Value.int IntKind.i64 M.v, Value.int IntKind.i64 M.c, Value.int IntKind.i64 M.s, Value.int IntKind.i64 M.r, Value.int IntKind.i64 M.t, Value.slice uba n ubc] :: Value.agg #[Value.int IntKind.i64 (k : Int), Value.slice da d.length dc, Value.slice pa p.length pc] :: Value.tuple #[Value.agg #[Value.int IntKind.i64 M.v, Value.int IntKind.i64 M.c, Value.int IntKind.i64 M.s, Value.int IntKind.i64 M.r, Value.int IntKind.i64 M.t, Value.slice ra n rc], Value.int IntKind.i64 0] :: Value.agg #[Value.int IntKind.i64 M.v, Value.int IntKind.i64 M.c, Value.int IntKind.i64 M.s, Value.int IntKind.i64 M.r, Value.int IntKind.i64 M.t, Value.slice ra n rc] :: Value.int IntKind.i64 0 :: Value.int IntKind.i64 0 :: Value.bool false :: undef :: undef :: undef :: undef :: undef :: undef :: undef :: undef :: undef :: undef :: undef :: undef :: undef :: undef :: Value.pointer (some { block := w.heap.size, off := 0 }) :: Value.int IntKind.i64 (k : Int) :: Value.bool false :: Value.bool false :: Value.pointer (some { block := w.heap.size, off := 0 }) :: Value.int IntKind.i64 (k : Int) :: Value.slice (some { block := b, off := off }) n uc :: Value.int IntKind.i64 (n : Int) :: Value.bool false :: Value.bool false :: vs 0 :: vs 1 :: vs 2 :: vs 3 :: vs 4 :: vs 5 :: vs 6 :: vs 7 :: vs 8 :: undef :: undef :: undef :: undef :: undef :: undef :: undef :: undef :: undef :: undef :: undef :: undef :: undef :: undef :: undef :: undef :: undef :: undef :: undef :: undef :: undef :: undef :: []), defers := [] } := ⟨_, rfl⟩
  have HLIT := Lib.hid hlit
  clear hlit
  obtain ⟨val, hval⟩ : ∃ val : List Value, val = [.pointer (some ⟨(w.heap.size), 1, none⟩), .slice da d.length dc, .slice (some ⟨b, off, none⟩) n uc, .pointer (some ⟨(w.heap.size), 0, none⟩), .int .i64 (k : Int), .pointer (some ⟨b, off + k * 3, none⟩), .pointer (some ⟨b, off + k * 3 + 1, none⟩), .slice ya x.d.length yc, .bool (decide (d = x.d))] := ⟨_, rfl⟩
  have E0 := Lib.hid (show val.getD 0 undef = .pointer (some ⟨(w.heap.size), 1, none⟩) by rw [hval]; rfl)
  have E1 := Lib.hid (show val.getD 1 undef = .slice da d.length dc by rw [hval]; rfl)
  have E2 := Lib.hid (show val.getD 2 undef = .slice (some ⟨b, off, none⟩) n uc by rw [hval]; rfl)
  have E3 := Lib.hid (show val.getD 3 undef = .pointer (some ⟨(w.heap.size), 0, none⟩) by rw [hval]; rfl)
  have E4 := Lib.hid (show val.getD 4 undef = .int .i64 (k : Int) by rw [hval]; rfl)
  have E5 := Lib.hid (show val.getD 5 undef = .pointer (some ⟨b, off + k * 3, none⟩) by rw [hval]; rfl)
  have E6 := Lib.hid (show val.getD 6 undef = .pointer (some ⟨b, off + k * 3 + 1, none⟩) by rw [hval]; rfl)
  have E7 := Lib.hid (show val.getD 7 undef = .slice ya x.d.length yc by rw [hval]; rfl)
  have E8 := Lib.hid (show val.getD 8 undef = .bool (decide (d = x.d)) by rw [hval]; rfl)
  clear hval
  obtain ⟨G, hG0⟩ : ∃ G : Nat → Value → World → Prop, G = (fun i v w => (v = val.getD i undef)) := ⟨_, rfl⟩
  have HG := Lib.hid hG0
  clear hG0
  refine region_inv (RS lit U3 G) (by kernel_rfl) (by decide +kernel) ?_ ?_ ?_
  · exact ⟨fun i => ([undef, undef, undef, undef, undef, undef, undef, undef, undef] : List Value).getD i undef, (by rw [HLIT.out]; rfl), below_drew _ _, fun i h => by cases h⟩
  · refine ⟨?_, ?_, ?_, ?_, ?_, ?_, ?_, ?_, ?_, trivial⟩
    · intro bf ac wv hfb haf hJ K' hK
      obtain ⟨vs, rfl, hM, j4⟩ := hJ
      replace hK := Lib.hid hK
      replace hM := Lib.hid hM
      rw [HG.out] at j4
      replace j4 := Lib.hid j4
      clear haf hfb
      rw [HLIT.out]
      go_simp
      exact hK.out _ _ (RS.next (wv := wv) (vs := vs) 0 (x := .pointer (some ⟨(w.heap.size), 1, none⟩)) (by rw [HLIT.out]; rfl) (by rw [HG.out]; exact j4.out) hM.out (by rw [HG.out]; exact fun _ _ h => h) (by rw [HG.out]; exact E0.out.symm))
    · intro bf ac wv hfb haf hJ K' hK
      obtain ⟨vs, rfl, hM, j4⟩ := hJ
      replace hK := Lib.hid hK
      replace hM := Lib.hid hM
      rw [HG.out] at j4
      simp [Region.binds] at haf
      have e0 := ((j4 0 (by simp [haf]))).trans E0.out
      replace j4 := Lib.hid j4
      clear haf hfb
      have x1 := (H40.out.step hM.out).c 1 rfl
      have xz := (H40.out.step hM.out).2.2
      rw [HLIT.out]
      go_simp
      exact hK.out _ _ (RS.next (wv := wv) (vs := vs) 1 (x := .slice da d.length dc) (by rw [HLIT.out]; simp only [upv, e0, Nat.reduceBEq, cond_true, cond_false]) (by rw [HG.out]; exact j4.out) hM.out (by rw [HG.out]; exact fun _ _ h => h) (by rw [HG.out]; exact E1.out.symm))
    · intro bf ac wv hfb haf hJ K' hK
      obtain ⟨vs, rfl, hM, j4⟩ := hJ
      replace hK := Lib.hid hK
      replace hM := Lib.hid hM
      rw [HG.out] at j4
      replace j4 := Lib.hid j4
      clear haf hfb
      rw [HLIT.out]
      go_simp
      exact hK.out _ _ (RS.next (wv := wv) (vs := vs) 2 (x := .slice (some ⟨b, off, none⟩) n uc) (by rw [HLIT.out]; rfl) (by rw [HG.out]; exact j4.out) hM.out (by rw [HG.out]; exact fun _ _ h => h) (by rw [HG.out]; exact E2.out.symm))
    · intro bf ac wv hfb haf hJ K' hK
      obtain ⟨vs, rfl, hM, j4⟩ := hJ
      replace hK := Lib.hid hK
      replace hM := Lib.hid hM
      rw [HG.out] at j4
      replace j4 := Lib.hid j4
      clear haf hfb
      rw [HLIT.out]
      go_simp
      exact hK.out _ _ (RS.next (wv := wv) (vs := vs) 3 (x := .pointer (some ⟨(w.heap.size), 0, none⟩)) (by rw [HLIT.out]; rfl) (by rw [HG.out]; exact j4.out) hM.out (by rw [HG.out]; exact fun _ _ h => h) (by rw [HG.out]; exact E3.out.symm))
    · intro bf ac wv hfb haf hJ K' hK
      obtain ⟨vs, rfl, hM, j4⟩ := hJ
      replace hK := Lib.hid hK
      replace hM := Lib.hid hM
      rw [HG.out] at j4
      simp [Region.binds] at haf
      have e3 := ((j4 3 (by simp [haf]))).trans E3.out
      replace j4 := Lib.hid j4
      clear haf hfb
      have x0 := (H40.out.step hM.out).c 0 rfl
      have xz := (H40.out.step hM.out).2.2
      rw [HLIT.out]
      go_simp
      exact hK.out _ _ (RS.next (wv := wv) (vs := vs) 4 (x := .int .i64 (k : Int)) (by rw [HLIT.out]; simp only [upv, e3, Nat.reduceBEq, cond_true, cond_false]) (by rw [HG.out]; exact j4.out) hM.out (by rw [HG.out]; exact fun _ _ h => h) (by rw [HG.out]; exact E4.out.symm))
    · intro bf ac wv hfb haf hJ K' hK
      obtain ⟨vs, rfl, hM, j4⟩ := hJ
      replace hK := Lib.hid hK
      replace hM := Lib.hid hM
      rw [HG.out] at j4
      simp [Region.binds] at haf
      have e2 := ((j4 2 (by simp [haf]))).trans E2.out
      have e4 := ((j4 4 (by simp [haf]))).trans E4.out
      replace j4 := Lib.hid j4
      clear haf hfb
      have t3 : (k : Int) < (n : Int) := by have := HKN.out; omega
      have t3b : (k : Int).toNat = k := Int.toNat_natCast k
      have t3c := HKN.out
      have t3d : (0 : Int) ≤ (k : Int) := by omega
      rw [HLIT.out]
      go_simp
      exact hK.out _ _ (RS.next (wv := wv) (vs := vs) 5 (x := .pointer (some ⟨b, off + k * 3, none⟩)) (by rw [HLIT.out]; simp only [upv, e2, e4, Nat.reduceBEq, cond_true, cond_false]) (by rw [HG.out]; exact j4.out) hM.out (by rw [HG.out]; exact fun _ _ h => h) (by rw [HG.out]; exact E5.out.symm))
    · intro bf ac wv hfb haf hJ K' hK
      obtain ⟨vs, rfl, hM, j4⟩ := hJ
      replace hK := Lib.hid hK
      replace hM := Lib.hid hM
      rw [HG.out] at j4
      simp [Region.binds] at haf
      have e5 := ((j4 5 (by simp [haf]))).trans E5.out
      replace j4 := Lib.hid j4
      clear haf hfb
      rw [HLIT.out]
      go_simp
      exact hK.out _ _ (RS.next (wv := wv) (vs := vs) 6 (x := .pointer (some ⟨b, off + k * 3 + 1, none⟩)) (by rw [HLIT.out]; simp only [upv, e5, Nat.reduceBEq, cond_true, cond_false]) (by rw [HG.out]; exact j4.out) hM.out (by rw [HG.out]; exact fun _ _ h => h) (by rw [HG.out]; exact E6.out.symm))
    · intro bf ac wv hfb haf hJ K' hK
      obtain ⟨vs, rfl, hM, j4⟩ := hJ
      replace hK := Lib.hid hK
      replace hM := Lib.hid hM
      rw [HG.out] at j4
      simp [Region.binds] at haf
      have e6 := ((j4 6 (by simp [haf]))).trans E6.out
      replace j4 := Lib.hid j4
      clear haf hfb
      have r0 := keep1 hM.out HX0.out
      have rz := Nat.lt_of_lt_of_le HXZ.out hM.out.size
      rw [HLIT.out]
      go_simp
      exact hK.out _ _ (RS.next (wv := wv) (vs := vs) 7 (x := .slice ya x.d.length yc) (by rw [HLIT.out]; simp only [upv, e6, Nat.reduceBEq, cond_true, cond_false]) (by rw [HG.out]; exact j4.out) hM.out (by rw [HG.out]; exact fun _ _ h => h) (by rw [HG.out]; exact E7.out.symm))
    · intro bf ac wv hfb haf hJ K' hK
      obtain ⟨vs, rfl, hM, j4⟩ := hJ
      replace hK := Lib.hid hK
      replace hM := Lib.hid hM
      rw [HG.out] at j4
      simp [Region.binds] at haf
      have e1 := ((j4 1 (by simp [haf]))).trans E1.out
      have e7 := ((j4 7 (by simp [haf]))).trans E7.out
      replace j4 := Lib.hid j4
      clear haf hfb
      rw [HLIT.out]
      go_simp
      go_at_call 21
      refine (ints_bel _ _ d x.d wv (H38.out.step hM.out) (H46.out.step hM.out)).mono ?_
      rintro e w4 ⟨rfl, b4⟩
      exact hK.out _ _ (RS.next (wv := wv) (vs := vs) 8 (x := .bool (decide (d = x.d))) (by rw [HLIT.out]; simp only [upv, e1, e7, Nat.reduceBEq, cond_true, cond_false]) (by rw [HG.out]; exact j4.out) (keep2 b4 hM.out) (by rw [HG.out]; exact fun _ _ h => h) (by rw [HG.out]; exact E8.out.symm))
  · intro bf ac wv hall hJ
    obtain ⟨vs, rfl, hM, j4⟩ := hJ
    rw [HG.out] at j4
    have e8 := ((j4 8 (hall 8 (by decide)))).trans E8.out
    have HM9 := Lib.hid hM
    clear hM j4 hall
    rw [HLIT.out]
    dsimp only
    rw [e8]
    clear e8 HLIT HG
    generalize vs = us8
    clear H43
    clear H45
    clear H42
    clear H46
    have H47 := Lib.hid (H37.out.step HM9.out)
    clear H37
    have H48 := Lib.hid (H38.out.step HM9.out)
    clear H38
    have H49 := Lib.hid (H39.out.step HM9.out)
    clear H39
    have H50 := Lib.hid (H40.out.step HM9.out)
    clear H40
    have H51 := Lib.hid (H41.out.step HM9.out)
    clear H41
    have H52 := Lib.hid (keep2 HM9.out H44.out)
    clear H44 HM9
    obtain ⟨U4, hU4⟩ : ∃ z9, wv = z9 := ⟨_, rfl⟩
    rw [hU4] at H47 H48 H49 H50 H51 H52 ⊢
    clear hU4
    by_cases hdx : d = x.d
    · rw [decide_eq_true hdx]
      go_wp2
      go_ret
      exact ⟨rfl, H52.out⟩
    · rw [decide_eq_false hdx]
      have HCD := Lib.hid (HFM.out.2.2.2.resolve_left hdx)
      have HB0 := Lib.hid HFM.out.2.2.1
      clear hdx
      have xp0 : U4.cell? ⟨(w.heap.size), 0, none⟩ = some (.int .i64 (k : Int)) := H50.out.c 0 rfl
      have xp1 : U4.cell? ⟨(w.heap.size), 1, none⟩ = some (.slice da d.length dc) := H50.out.c 1 rfl
      have xp2 : U4.cell? ⟨(w.heap.size), 2, none⟩ = some (.slice pa p.length pc) := H50.out.c 2 rfl
      have zp : (w.heap.size) < U4.heap.size := H50.out.2.2
      go_wp2_with fail
      have HBS := Lib.hid (Nat.le_trans H52.out.size (Nat.le_succ _))
      refine (climb_any _ _ d p (k : Int) _ H48.out H49.out.1 (by have := hX.out; omega) (by have h1 := HKN.out; have h2 := HN9.out; omega)).mono ?_
      rintro e u4 ⟨⟨cu, rfl, hc⟩, b4⟩
      clear xp0 xp1 xp2 zp
      have H53 := Lib.hid (H47.out.step b4)
      clear H47
      have H54 := Lib.hid (H48.out.step b4)
      clear H48
      have H55 := Lib.hid (H49.out.step b4)
      clear H49
      have H56 := Lib.hid (H50.out.step b4)
      clear H50
      have H57 := Lib.hid (H51.out.step b4)
      clear H51
      have H58 := Lib.hid (keep2 b4 H52.out)
      clear H52
      clear b4
      have HCL := Lib.hid (clL_bd (l := d) HB0.out)
      obtain ⟨ca, cc, rfl⟩ := hc.slice
      obtain ⟨cn, hcn⟩ : ∃ z, (clL d (k : Int) p).length = z := ⟨_, rfl⟩
      rw [hcn] at hc HCL ⊢
      have HCN := Lib.hid hcn
      clear hcn
      obtain ⟨ch, hch⟩ : ∃ z, clH d (k : Int) p = z := ⟨_, rfl⟩
      rw [hch]
      clear hch
      have H59 := Lib.hid (ListsR.base (n1 := w.heap.size) hc HBS.out)
      clear hc
      have HPV := Lib.hid H57.out
      have hr5 := lists_app_keep (u4.alloc (.cells #[] 22)) w.heap.size u4.heap.size [] (clL d (k : Int) p) (.slice (some ⟨u4.heap.size, 0, none⟩) 0 0) (.slice ca cn cc) 25 (lists_empty u4 (Nat.le_refl _)) (H59.out.step (al _ _)) (by rw [HCN.out]; have := HCL.out; omega) (by rw [HCN.out, List.length_nil]; have := HCL.out; omega) (al _ _).size H58.out.size
      obtain ⟨v5, w5, q5, hl5, hb5⟩ := hr5
      have HB5 := Lib.hid (show Below u4.heap.size u4 w5 from (al u4 _).trans hb5)
      have HBW := Lib.hid (keep2 HB5.out H58.out)
      have HL5 := Lib.hid (show ListsR w.heap.size (clL d (k : Int) p) v5 w5 from by rw [List.nil_append] at hl5; exact hl5)
      have HP5 := Lib.hid (H57.out.step HB5.out)
      clear hl5 hb5
      have hm1 : (1 : Nat) = 1 := rfl
      go_wp2_with (at_builtin; refine wpList_app_g _ _ 25 rfl (by simp [Region.wanted, yielded]) _ _ v5 rfl rfl q5 ?_)
      rw [← hln.out]
      refine (lists_any _ l _ HP5.out (by have := h64.out; omega)).mono ?_
      rintro e w6 ⟨lu, rfl, hlu, b6⟩
      have HL6 := Lib.hid (HL5.out.step b6)
      have HB6 := Lib.hid (keep2 b6 HBW.out)
      clear b6 q5
      rw [HLX.out] at hlu
      have HU6 := Lib.hid hlu
      clear hlu
      have hlu2 := HU6.out
      obtain ⟨lua, luc, rfl, -, -⟩ := hlu2
      obtain ⟨v5a, v5c, rfl⟩ := HL5.out.slice
      go_wp2_with fail
      refine (rlists_any _ LL _ HU6.out (by rw [HLLn.out]; have := HN9.out; omega) (by rw [HLLn.out]; have := HKN.out; omega) HLS.out).mono ?_
      rintro e w7 ⟨tu, rfl, ht, b7⟩
      have HL7 := Lib.hid (HL6.out.step b7)
      have HT7 := Lib.hid (ListsR.base (n1 := w.heap.size) ht HB6.out.size)
      have HB7 := Lib.hid (keep2 b7 HB6.out)
      clear ht b7
      have HLN := Lib.hid (show LL ≠ [] from fun e => by have h1 := HLLn.out; have h2 := HKN.out; rw [e] at h1; simp at h1; omega)
      have HTL := Lib.hid (trL_len HLN.out)
      have HT1 := Lib.hid (show 0 < (trL LL).length by rw [trL_is, List.length_append, lvL_len, HLLn.out]; have := HKN.out; omega)
      have h7 := lists_app w7 w.heap.size (clL d (k : Int) p) (trL LL) (.slice v5a (clL d (k : Int) p).length v5c) tu 25 HL7.out HT7.out HT1.out (by rw [HCN.out]; have h1 := HTL.out; have h2 := HCL.out; have h3 := HN9.out; rw [HLLn.out] at h1; omega) HB7.out.size
      obtain ⟨v8, w8, q8, hl8, hb8⟩ := h7
      have HT8 := Lib.hid hl8
      have HB8 := Lib.hid (HB7.out.trans hb8)
      clear hl8 hb8
      obtain ⟨tua, tuc, rfl⟩ := HT7.out.slice
      go_wp2_with (at_builtin; refine wpList_app_g _ _ 25 rfl (by simp [Region.wanted, yielded]) _ _ v8 rfl rfl q8 ?_)
      refine (collide_yes _ _ _ (HT8.out.rows (by rw [List.length_append, HCN.out]; have h1 := HTL.out; have h2 := HCL.out; have h3 := HN9.out; rw [HLLn.out] at h1; omega)) (by rw [List.length_append, HCN.out]; have h1 := HTL.out; have h2 := HCL.out; have h3 := HN9.out; rw [HLLn.out] at h1; omega) HCD.out).mono ?_
      rintro e w9 ⟨rfl, b9⟩
      have HB9 := Lib.hid (keep2 b9 HB8.out)
      clear b9 q8
      go_wp2
      go_ret
      exact ⟨rfl, HB9.out⟩
theorem forged_any (key ver s : Int) (v : Value) (D : List Int) (i : Int) (dv : Value) (d : List Int) (pv : Value) (p : List Int) (w : World) (h : IntsAt w v D) (hcp : ∀ a n c, v = .slice a n c → n ≤ c) (hd : IntsAt w dv d) (hp : CapI w pv p) : Calls Try.prog 5 #[.int .i64 key, .int .i64 ver, .int .i64 s, v, .agg #[.int .i64 i, dv, pv]] w fun e w' => e = .returned (.bool true) ∧ Below w.heap.size w w' := by
  by_cases hL : 200 < D.length
  · exact fg_long key ver s v D i dv d pv p w h hcp hd hp hL
  · by_cases hX : 40 < d.length
    · exact fg_pl key ver s v D i dv d pv p w h hcp hd hp (by omega) hX
    · by_cases hP : 30 < p.length
      · exact fg_pp key ver s v D i dv d pv p w h hcp hd hp (by omega) (by omega) hP
      · by_cases hE : spE key ver s D = 0
        · have hs : slB (spM key ver s D 0) (List.replicate (spL s D 0).length []) = true := by
            have := slB_new (spM_ok hE)
            rwa [show (spM key ver s D 0).c.toNat = (spL s D 0).length by rw [spM_eq, spL_lenT]; simp] at this
          by_cases hA : adE (spM key ver s D 0) (List.replicate (spL s D 0).length []) i d p = 0
          · obtain ⟨k, rfl⟩ := Int.eq_ofNat_of_zero_le (forged_main hE (spL_lenT s D).symm hA).1
            exact fg_y key ver s v D k dv d pv p w h hcp hd hp (by omega) (by omega) (by omega) hE _ _ _ rfl rfl rfl hA
          · rcases ad_some hs hA with q | q
            · exact fg_a key ver s v D i dv d pv p w h hcp hd hp (by omega) (by omega) (by omega) hE _ _ _ rfl rfl rfl q
            · exact fg_b key ver s v D i dv d pv p w h hcp hd hp (by omega) (by omega) (by omega) hE _ _ _ rfl rfl rfl q
        · exact fg_bad key ver s v D i dv d pv p w h hcp hd hp (by omega) (by omega) (by omega) hE
end Go.Proofs.Yteodafhgfcbdpaa
