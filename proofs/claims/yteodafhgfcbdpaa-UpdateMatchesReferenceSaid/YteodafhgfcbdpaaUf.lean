import Derived.Laws.OwnMore
import Derived.Lib.AppendZerosOnto
import Derived.Lib.SliceRun
import Derived.Maps.AppendAt
import Derived.Test.YteodafhgfcbdpaaUe
namespace Go.Proofs.Yteodafhgfcbdpaa
open Go.RowKit Go.Lib

set_option maxRecDepth 100000 in
set_option maxHeartbeats 8000000 in
theorem grow_nil (n : Nat) (h9 : n ≤ 100000) (w : World) :
    Calls Try.prog 72 #[.slice none 0 0, .int .i64 n] w fun e w' => ∃ u, e = .returned u ∧ w'.ownsRow w.heap.size 3 1 u 0 [] ∧ Below w.heap.size w w' := by
  by_cases h0 : n = 0
  · subst h0
    go_enter Try.func72, Try.ntmps72
    go_wp2
    go_ret
    exact ⟨_, rfl, World.ownsRow_nil _ _ _ _, by first | exact Below.refl _ _ | exact below_drew _ _⟩
  · obtain ⟨i0, hi, hz0, hz1, hz2⟩ := info_parts infoInt
    have h1 : ¬ ((n : Int) < 0) := by omega
    have h4 : (n : Int) > 0 := by omega
    have hrz : ∀ ty, (Builtin.append_ #[22, 3] ty #[.slice none 0 0, .int .i64 (n : Int)]).run Try.prog w =
        .ok (.slice (some ⟨w.heap.size, 0, none⟩) n (grownCap w n 0 3)) (w.drew.alloc (.cells (([] : List Value).toArray ++ Builtin.zeroCells (Value.int .i64 0).cells n ++ Builtin.zeroCells (Value.int .i64 0).cells (grownCap w n 0 3 - n)) 3)) := fun ty => by
      have h := Lib.run_append_grow_zeros (P := Try.prog) w 22 3 ty 3 i0 _ .i64 .i64 Try.underlying22 Try.underlying3 hi hz0 none 0 0 [] (run_firstCells_none w.drew i0.size 0 0 0) n (by omega) (by omega) (by omega) (by omega)
        (by rw [hz2]; omega)
        (by rw [hz2, Nat.zero_add]; exact growslice_fits (by omega) (by omega))
      rw [Nat.zero_add] at h
      exact h
    have hGn : n ≤ grownCap w n 0 3 := grownCap_ge w _ _ _
    have hGm := grownCap_le_maxLen w n 0 3 (by unfold maxLen; omega)
    obtain ⟨G, hG⟩ : ∃ G, G = grownCap w n 0 3 := ⟨_, rfl⟩
    rw [← hG] at hrz hGn hGm
    have HROW := Lib.hid (show (w.drew.alloc (.cells (([] : List Value).toArray ++ Builtin.zeroCells (Value.int .i64 0).cells n ++ Builtin.zeroCells (Value.int .i64 0).cells (G - n)) 3)).ownsRow w.heap.size 3 1 (.slice (some ⟨w.heap.size, 0, none⟩) 0 G) 0 [] from
      ⟨rfl, .inr ⟨w.heap.size, G, _, rfl, Nat.le_refl _, heap_alloc_new _ _, by omega, hGm, by have c4 : (Value.int IntKind.i64 0).cells.size = 1 := rfl; simp [Builtin.zeroCells, c4]; omega, rfl⟩⟩)
    have HBEL := Lib.hid ((below_drew w.heap.size w).alloc (Nat.le_refl _) (.cells (([] : List Value).toArray ++ Builtin.zeroCells (Value.int .i64 0).cells n ++ Builtin.zeroCells (Value.int .i64 0).cells (G - n)) 3))
    generalize w.drew.alloc (.cells (([] : List Value).toArray ++ Builtin.zeroCells (Value.int .i64 0).cells n ++ Builtin.zeroCells (Value.int .i64 0).cells (G - n)) 3) = W' at hrz HROW HBEL
    unfold maxLen at hGm
    clear hG hi hz0 hz1 hz2
    have HRZ := Lib.hid hrz
    clear hrz
    go_enter Try.func72, Try.ntmps72
    go_wp2_with (at_builtin; refine Lib.wpList_append_run _ rfl _ _ _ _ rfl _ _ rfl rfl _ _ (HRZ.out _) ?_)
    all_goals go_ret
    all_goals exact ⟨_, rfl, HROW.out, HBEL.out⟩
theorem grow_n (n : Nat) (z : Int) (hz : z = (n : Int)) (h9 : n ≤ 100000) (w : World) :
    Calls Try.prog 72 #[.slice none 0 0, .int .i64 z] w fun e w' => ∃ u, e = .returned u ∧ w'.ownsRow w.heap.size 3 1 u 0 [] ∧ Below w.heap.size w w' := by
  subst hz
  exact grow_nil n h9 w
def smK (L : List (List Int)) (k : Nat) : Nat := (L.take k).flatten.length
theorem fl_take {L : List (List Int)} {k : Nat} (h : k < L.length) : (L.take (k + 1)).flatten = (L.take k).flatten ++ L.getD k [] := by
  rw [List.take_succ_eq_append_getElem h, List.flatten_append]
  simp [h]
theorem sm_succ {L : List (List Int)} {k : Nat} (h : k < L.length) : smK L (k + 1) = smK L k + (L.getD k []).length := by
  unfold smK; rw [fl_take h, List.length_append]
theorem sm_le (L : List (List Int)) (k : Nat) : smK L k ≤ L.flatten.length := by
  unfold smK
  rw [show L.flatten = (L.take k).flatten ++ (L.drop k).flatten by rw [← List.flatten_append, List.take_append_drop], List.length_append]
  omega
set_option maxRecDepth 100000 in
set_option maxHeartbeats 8000000 in
theorem concat_any (v : Value) (L : List (List Int)) (w : World) (h : RowsAt w v L) (h9 : L.length ≤ 1000) (h7 : L.flatten.length ≤ 5000) :
    Calls Try.prog 57 #[v] w fun e w' => ∃ u, e = .returned u ∧ IntsAt w' u L.flatten ∧ Below w.heap.size w w' := by
  have HL := Lib.hid h
  have H7 := Lib.hid h7
  obtain ⟨va, vc, rfl, -, -⟩ := h
  clear h7
  go_enter Try.func57, Try.ntmps57
  go_wp2_with fail
  go_loopw [3, 11] (fun sv iv wr => ∃ k : Nat, k ≤ L.length ∧ iv = .int .i64 (k : Int) ∧ sv = .int .i64 (smK L k : Int) ∧ Hid (Below w.heap.size w wr)) (fun _ iv _ => L.length - (intOf iv).toNat)
  case atStart => exact ⟨0, by omega, rfl, rfl, Lib.hid (Below.refl _ _)⟩
  case round =>
    obtain ⟨k, hk, rfl, rfl, HW⟩ := hrel
    by_cases hlt : k < L.length
    · have HIL := Lib.hid hlt
      have HSU := Lib.hid (sm_succ hlt)
      have h6 := sm_le L (k + 1)
      have h5 := H7.out
      rw [HSU.out] at h6
      obtain ⟨bb, off, rfl, ya, yc, x0, xz, -⟩ := rows_at (HL.out.step HW.out) hlt
      have t3 : (k : Int) < (L.length : Int) := by omega
      obtain ⟨x, hx⟩ : ∃ z9, (L.getD k []).length = z9 := ⟨_, rfl⟩
      rw [hx] at x0 HSU h6
      clear hx
      obtain ⟨sv, hs⟩ : ∃ z9, smK L k = z9 := ⟨_, rfl⟩
      rw [hs] at HSU h6 ⊢
      clear hs
      have h4 : ¬ ((sv : Int) + (x : Int) < 0) := by omega
      have h3 : wrap64 ((sv : Int) + (x : Int)) = (sv : Int) + (x : Int) := IntWalk.wrap64_in _ (by omega)
      have HNE := Lib.hid (show (sv : Int) + (x : Int) = (smK L (k + 1) : Int) by rw [HSU.out]; omega)
      clear h5
      go_wp2
      go_roundw
      case rel => exact ⟨k + 1, HIL.out, by go_num, (by rw [h3, HNE.out]), HW⟩
      case measure => have := HIL.out; simp [intOf]; omega
    · obtain rfl : k = L.length := by omega
      have t3 : ¬ (L.length : Int) < (L.length : Int) := by omega
      have HS9 := Lib.hid (show smK L L.length ≤ 5000 from Nat.le_trans (sm_le L _) H7.out)
      go_wp2_with fail
      refine (grow_n (smK L L.length) _ rfl (by have := HS9.out; omega) _).mono ?_
      rintro e u2 ⟨gv, rfl, hrow, b2⟩
      have HRW := Lib.hid (row_base hrow HW.out.size)
      have HB2 := Lib.hid (keep2 b2 HW.out)
      clear hrow b2 HW hlt hk t3
      go_wp2_with fail
      go_loopw [6, 27] (fun rv iv wr => ∃ k : Nat, k ≤ L.length ∧ iv = .int .i64 (k : Int) ∧ Hid (wr.ownsRow w.heap.size 3 1 rv (L.take k).flatten.length ((L.take k).flatten.map (Value.int .i64))) ∧ Hid (Below w.heap.size w wr)) (fun _ iv _ => L.length - (intOf iv).toNat)
      case atStart => exact ⟨0, by omega, rfl, HRW, HB2⟩
      case round =>
        obtain ⟨k, hk, rfl, HR0, HW⟩ := hrel
        clear HRW HB2
        by_cases hlt : k < L.length
        · have HIL := Lib.hid hlt
          have HSU := Lib.hid (fl_take hlt)
          have h6 := sm_le L (k + 1)
          have h5 := H7.out
          unfold smK at h6
          rw [HSU.out, List.length_append] at h6
          obtain ⟨bb, off, rfl, ya, yc, x0, xz, hy⟩ := rows_at (HL.out.step HW.out) hlt
          have t3 : (k : Int) < (L.length : Int) := by omega
          obtain ⟨x, hx⟩ : ∃ z9, L.getD k [] = z9 := ⟨_, rfl⟩
          rw [hx] at x0 HSU h6 hy
          clear hx
          obtain ⟨P, hP⟩ : ∃ z9, (L.take k).flatten = z9 := ⟨_, rfl⟩
          rw [hP] at HSU h6 HR0
          clear hP
          obtain ⟨v8, w8, hq, ho, hg⟩ := run_appI wr w.heap.size P.length _ _ _ x 22 HR0.out hy (by omega) HW.out.size
          have HQ := Lib.hid hq
          have HO := Lib.hid ho
          have HB8 := Lib.hid (HW.out.grown hg HW.out.size (fun g e => row_own HR0.out e))
          clear hq ho hg h5 h6 hy
          go_wp2_with (at_builtin; refine wpList_appI rfl _ _ 22 rfl _ _ _ rfl rfl HQ.out ?_)
          go_roundw
          case rel => exact ⟨k + 1, HIL.out, by go_num, (by rw [HSU.out, List.length_append, List.map_append]; exact HO), HB8⟩
          case measure => have := HIL.out; simp [intOf]; omega
        · obtain rfl : k = L.length := by omega
          have t3 : ¬ (L.length : Int) < (L.length : Int) := by omega
          go_wp2
          go_ret
          have h := HR0.out
          rw [List.take_length] at h
          exact ⟨_, rfl, ints_of_row h, HW.out⟩
/-- What 'Join' answers. -/
def joE (m : Mf) (L : List (List Int)) : Int := if slB m L = false then 1 else if 0 < (msL L).length then 28 else 0
def joD (E : Int) (L : List (List Int)) : List Int := if E = 0 then L.flatten else []
set_option maxRecDepth 100000 in
set_option maxHeartbeats 8000000 in
theorem join_s (m : Mf) (v : Value) (L : List (List Int)) (w : World) (h : RowsAt w v L) (h9 : L.length ≤ 1000) (h8 : ∀ x ∈ L, x.length ≤ 1000) (h7 : L.flatten.length ≤ 5000) (hm : slB m L = false) : Calls Try.prog 17 #[.agg #[.int .i64 m.v, .int .i64 m.c, .int .i64 m.s, .int .i64 m.r, .int .i64 m.t, v]] w (fun e w' => ∃ u, e = .returned (.tuple #[u, .int .i64 1]) ∧ IntsAt w' u [] ∧ Below w.heap.size w w') := by
  have HM := Lib.hid hm
  clear hm
  have HL := Lib.hid h
  have H8 := Lib.hid h8
  have H7 := Lib.hid h7
  obtain ⟨va, vc, rfl, -, -⟩ := h
  clear h8 h7
  have H0 := Lib.hid (Below.refl w.heap.size w)
  have H1 := Lib.hid (keep2 (al w (.cells #[.int .i64 m.v, .int .i64 m.c, .int .i64 m.s, .int .i64 m.r, .int .i64 m.t, .slice va L.length vc] 27)) H0.out)
  clear H0
  have H2 := Lib.hid (Cs.new w (w.heap.size) #[.int .i64 m.v, .int .i64 m.c, .int .i64 m.s, .int .i64 m.r, .int .i64 m.t, .slice va L.length vc] 27 (by simp))
  go_enter Try.func17, Try.ntmps17
  have xs0 : (w.alloc (.cells #[.int .i64 m.v, .int .i64 m.c, .int .i64 m.s, .int .i64 m.r, .int .i64 m.t, .slice va L.length vc] 27)).cell? ⟨(w.heap.size), 0, none⟩ = some (.int .i64 m.v) := H2.out.c 0 rfl
  have xs1 : (w.alloc (.cells #[.int .i64 m.v, .int .i64 m.c, .int .i64 m.s, .int .i64 m.r, .int .i64 m.t, .slice va L.length vc] 27)).cell? ⟨(w.heap.size), 1, none⟩ = some (.int .i64 m.c) := H2.out.c 1 rfl
  have xs2 : (w.alloc (.cells #[.int .i64 m.v, .int .i64 m.c, .int .i64 m.s, .int .i64 m.r, .int .i64 m.t, .slice va L.length vc] 27)).cell? ⟨(w.heap.size), 2, none⟩ = some (.int .i64 m.s) := H2.out.c 2 rfl
  have xs3 : (w.alloc (.cells #[.int .i64 m.v, .int .i64 m.c, .int .i64 m.s, .int .i64 m.r, .int .i64 m.t, .slice va L.length vc] 27)).cell? ⟨(w.heap.size), 3, none⟩ = some (.int .i64 m.r) := H2.out.c 3 rfl
  have xs4 : (w.alloc (.cells #[.int .i64 m.v, .int .i64 m.c, .int .i64 m.s, .int .i64 m.r, .int .i64 m.t, .slice va L.length vc] 27)).cell? ⟨(w.heap.size), 4, none⟩ = some (.int .i64 m.t) := H2.out.c 4 rfl
  have xs5 : (w.alloc (.cells #[.int .i64 m.v, .int .i64 m.c, .int .i64 m.s, .int .i64 m.r, .int .i64 m.t, .slice va L.length vc] 27)).cell? ⟨(w.heap.size), 5, none⟩ = some (.slice va L.length vc) := H2.out.c 5 rfl
  have zs : (w.heap.size) < (w.alloc (.cells #[.int .i64 m.v, .int .i64 m.c, .int .i64 m.s, .int .i64 m.r, .int .i64 m.t, .slice va L.length vc] 27)).heap.size := H2.out.2.2
  go_wp2_with fail
  refine (slot_any m _ L _ (HL.out.step H1.out) h9 H8.out).mono ?_
  rintro e u1 ⟨rfl, b1⟩
  clear xs0 xs1 xs2 xs3 xs4 xs5 zs
  have H3 := Lib.hid (H2.out.step b1)
  clear H2
  have H4 := Lib.hid (keep2 b1 H1.out)
  clear H1
  clear b1
  rw [HM.out]
  have xs0 : u1.cell? ⟨(w.heap.size), 0, none⟩ = some (.int .i64 m.v) := H3.out.c 0 rfl
  have xs1 : u1.cell? ⟨(w.heap.size), 1, none⟩ = some (.int .i64 m.c) := H3.out.c 1 rfl
  have xs2 : u1.cell? ⟨(w.heap.size), 2, none⟩ = some (.int .i64 m.s) := H3.out.c 2 rfl
  have xs3 : u1.cell? ⟨(w.heap.size), 3, none⟩ = some (.int .i64 m.r) := H3.out.c 3 rfl
  have xs4 : u1.cell? ⟨(w.heap.size), 4, none⟩ = some (.int .i64 m.t) := H3.out.c 4 rfl
  have xs5 : u1.cell? ⟨(w.heap.size), 5, none⟩ = some (.slice va L.length vc) := H3.out.c 5 rfl
  have zs : (w.heap.size) < u1.heap.size := H3.out.2.2
  go_wp2
  exact bodyPost_ret (v := .tuple #[.slice none 0 0, .int .i64 1]) (by simp [results, Try.results17, go_sem]) rfl ⟨_, rfl, ints_nil _, H4.out⟩
set_option maxRecDepth 100000 in
set_option maxHeartbeats 8000000 in
theorem join_m (m : Mf) (v : Value) (L : List (List Int)) (w : World) (h : RowsAt w v L) (h9 : L.length ≤ 1000) (h8 : ∀ x ∈ L, x.length ≤ 1000) (h7 : L.flatten.length ≤ 5000) (hm : slB m L = true) (hn : 0 < (msL L).length) : Calls Try.prog 17 #[.agg #[.int .i64 m.v, .int .i64 m.c, .int .i64 m.s, .int .i64 m.r, .int .i64 m.t, v]] w (fun e w' => ∃ u, e = .returned (.tuple #[u, .int .i64 28]) ∧ IntsAt w' u [] ∧ Below w.heap.size w w') := by
  have HM := Lib.hid hm
  have HN := Lib.hid hn
  clear hm hn
  have HL := Lib.hid h
  have H8 := Lib.hid h8
  have H7 := Lib.hid h7
  obtain ⟨va, vc, rfl, -, -⟩ := h
  clear h8 h7
  have H0 := Lib.hid (Below.refl w.heap.size w)
  have H1 := Lib.hid (keep2 (al w (.cells #[.int .i64 m.v, .int .i64 m.c, .int .i64 m.s, .int .i64 m.r, .int .i64 m.t, .slice va L.length vc] 27)) H0.out)
  clear H0
  have H2 := Lib.hid (Cs.new w (w.heap.size) #[.int .i64 m.v, .int .i64 m.c, .int .i64 m.s, .int .i64 m.r, .int .i64 m.t, .slice va L.length vc] 27 (by simp))
  go_enter Try.func17, Try.ntmps17
  have xs0 : (w.alloc (.cells #[.int .i64 m.v, .int .i64 m.c, .int .i64 m.s, .int .i64 m.r, .int .i64 m.t, .slice va L.length vc] 27)).cell? ⟨(w.heap.size), 0, none⟩ = some (.int .i64 m.v) := H2.out.c 0 rfl
  have xs1 : (w.alloc (.cells #[.int .i64 m.v, .int .i64 m.c, .int .i64 m.s, .int .i64 m.r, .int .i64 m.t, .slice va L.length vc] 27)).cell? ⟨(w.heap.size), 1, none⟩ = some (.int .i64 m.c) := H2.out.c 1 rfl
  have xs2 : (w.alloc (.cells #[.int .i64 m.v, .int .i64 m.c, .int .i64 m.s, .int .i64 m.r, .int .i64 m.t, .slice va L.length vc] 27)).cell? ⟨(w.heap.size), 2, none⟩ = some (.int .i64 m.s) := H2.out.c 2 rfl
  have xs3 : (w.alloc (.cells #[.int .i64 m.v, .int .i64 m.c, .int .i64 m.s, .int .i64 m.r, .int .i64 m.t, .slice va L.length vc] 27)).cell? ⟨(w.heap.size), 3, none⟩ = some (.int .i64 m.r) := H2.out.c 3 rfl
  have xs4 : (w.alloc (.cells #[.int .i64 m.v, .int .i64 m.c, .int .i64 m.s, .int .i64 m.r, .int .i64 m.t, .slice va L.length vc] 27)).cell? ⟨(w.heap.size), 4, none⟩ = some (.int .i64 m.t) := H2.out.c 4 rfl
  have xs5 : (w.alloc (.cells #[.int .i64 m.v, .int .i64 m.c, .int .i64 m.s, .int .i64 m.r, .int .i64 m.t, .slice va L.length vc] 27)).cell? ⟨(w.heap.size), 5, none⟩ = some (.slice va L.length vc) := H2.out.c 5 rfl
  have zs : (w.heap.size) < (w.alloc (.cells #[.int .i64 m.v, .int .i64 m.c, .int .i64 m.s, .int .i64 m.r, .int .i64 m.t, .slice va L.length vc] 27)).heap.size := H2.out.2.2
  go_wp2_with fail
  refine (slot_any m _ L _ (HL.out.step H1.out) h9 H8.out).mono ?_
  rintro e u1 ⟨rfl, b1⟩
  clear xs0 xs1 xs2 xs3 xs4 xs5 zs
  have H3 := Lib.hid (H2.out.step b1)
  clear H2
  have H4 := Lib.hid (keep2 b1 H1.out)
  clear H1
  clear b1
  rw [HM.out]
  have xs0 : u1.cell? ⟨(w.heap.size), 0, none⟩ = some (.int .i64 m.v) := H3.out.c 0 rfl
  have xs1 : u1.cell? ⟨(w.heap.size), 1, none⟩ = some (.int .i64 m.c) := H3.out.c 1 rfl
  have xs2 : u1.cell? ⟨(w.heap.size), 2, none⟩ = some (.int .i64 m.s) := H3.out.c 2 rfl
  have xs3 : u1.cell? ⟨(w.heap.size), 3, none⟩ = some (.int .i64 m.r) := H3.out.c 3 rfl
  have xs4 : u1.cell? ⟨(w.heap.size), 4, none⟩ = some (.int .i64 m.t) := H3.out.c 4 rfl
  have xs5 : u1.cell? ⟨(w.heap.size), 5, none⟩ = some (.slice va L.length vc) := H3.out.c 5 rfl
  have zs : (w.heap.size) < u1.heap.size := H3.out.2.2
  go_wp2_with fail
  refine (miss_any m _ L _ (HL.out.step H4.out) h9 H8.out).mono ?_
  rintro e u2 ⟨u, rfl, hu, b2⟩
  clear xs0 xs1 xs2 xs3 xs4 xs5 zs
  have H5 := Lib.hid (H3.out.step b2)
  clear H3
  have H6 := Lib.hid (keep2 b2 H4.out)
  clear H4
  clear b2
  rw [show msB m L = msL L by unfold msB; rw [if_pos HM.out]] at hu
  obtain ⟨ua, uc, rfl, -, -⟩ := hu
  have t1 : (0 : Int) < ((msL L).length : Int) := by have := HN.out; omega
  have t2 : decide ((0 : Int) < ((msL L).length : Int)) = true := decide_eq_true t1
  have t3 : ¬ msL L = [] := by intro e; have := HN.out; rw [e] at this; simp at this
  have t4 : 0 < (msL L).length := HN.out
  have xs0 : u2.cell? ⟨(w.heap.size), 0, none⟩ = some (.int .i64 m.v) := H5.out.c 0 rfl
  have xs1 : u2.cell? ⟨(w.heap.size), 1, none⟩ = some (.int .i64 m.c) := H5.out.c 1 rfl
  have xs2 : u2.cell? ⟨(w.heap.size), 2, none⟩ = some (.int .i64 m.s) := H5.out.c 2 rfl
  have xs3 : u2.cell? ⟨(w.heap.size), 3, none⟩ = some (.int .i64 m.r) := H5.out.c 3 rfl
  have xs4 : u2.cell? ⟨(w.heap.size), 4, none⟩ = some (.int .i64 m.t) := H5.out.c 4 rfl
  have xs5 : u2.cell? ⟨(w.heap.size), 5, none⟩ = some (.slice va L.length vc) := H5.out.c 5 rfl
  have zs : (w.heap.size) < u2.heap.size := H5.out.2.2
  go_wp2
  exact bodyPost_ret (v := .tuple #[.slice none 0 0, .int .i64 28]) (by simp [results, Try.results17, go_sem]) rfl ⟨_, rfl, ints_nil _, H6.out⟩
set_option maxRecDepth 100000 in
set_option maxHeartbeats 8000000 in
theorem join_ok (m : Mf) (v : Value) (L : List (List Int)) (w : World) (h : RowsAt w v L) (h9 : L.length ≤ 1000) (h8 : ∀ x ∈ L, x.length ≤ 1000) (h7 : L.flatten.length ≤ 5000) (hm : slB m L = true) (hn : ¬ 0 < (msL L).length) : Calls Try.prog 17 #[.agg #[.int .i64 m.v, .int .i64 m.c, .int .i64 m.s, .int .i64 m.r, .int .i64 m.t, v]] w (fun e w' => ∃ u, e = .returned (.tuple #[u, .int .i64 0]) ∧ IntsAt w' u L.flatten ∧ Below w.heap.size w w') := by
  have HM := Lib.hid hm
  have HN := Lib.hid hn
  clear hm hn
  have HL := Lib.hid h
  have H8 := Lib.hid h8
  have H7 := Lib.hid h7
  obtain ⟨va, vc, rfl, -, -⟩ := h
  clear h8 h7
  have H0 := Lib.hid (Below.refl w.heap.size w)
  have H1 := Lib.hid (keep2 (al w (.cells #[.int .i64 m.v, .int .i64 m.c, .int .i64 m.s, .int .i64 m.r, .int .i64 m.t, .slice va L.length vc] 27)) H0.out)
  clear H0
  have H2 := Lib.hid (Cs.new w (w.heap.size) #[.int .i64 m.v, .int .i64 m.c, .int .i64 m.s, .int .i64 m.r, .int .i64 m.t, .slice va L.length vc] 27 (by simp))
  go_enter Try.func17, Try.ntmps17
  have xs0 : (w.alloc (.cells #[.int .i64 m.v, .int .i64 m.c, .int .i64 m.s, .int .i64 m.r, .int .i64 m.t, .slice va L.length vc] 27)).cell? ⟨(w.heap.size), 0, none⟩ = some (.int .i64 m.v) := H2.out.c 0 rfl
  have xs1 : (w.alloc (.cells #[.int .i64 m.v, .int .i64 m.c, .int .i64 m.s, .int .i64 m.r, .int .i64 m.t, .slice va L.length vc] 27)).cell? ⟨(w.heap.size), 1, none⟩ = some (.int .i64 m.c) := H2.out.c 1 rfl
  have xs2 : (w.alloc (.cells #[.int .i64 m.v, .int .i64 m.c, .int .i64 m.s, .int .i64 m.r, .int .i64 m.t, .slice va L.length vc] 27)).cell? ⟨(w.heap.size), 2, none⟩ = some (.int .i64 m.s) := H2.out.c 2 rfl
  have xs3 : (w.alloc (.cells #[.int .i64 m.v, .int .i64 m.c, .int .i64 m.s, .int .i64 m.r, .int .i64 m.t, .slice va L.length vc] 27)).cell? ⟨(w.heap.size), 3, none⟩ = some (.int .i64 m.r) := H2.out.c 3 rfl
  have xs4 : (w.alloc (.cells #[.int .i64 m.v, .int .i64 m.c, .int .i64 m.s, .int .i64 m.r, .int .i64 m.t, .slice va L.length vc] 27)).cell? ⟨(w.heap.size), 4, none⟩ = some (.int .i64 m.t) := H2.out.c 4 rfl
  have xs5 : (w.alloc (.cells #[.int .i64 m.v, .int .i64 m.c, .int .i64 m.s, .int .i64 m.r, .int .i64 m.t, .slice va L.length vc] 27)).cell? ⟨(w.heap.size), 5, none⟩ = some (.slice va L.length vc) := H2.out.c 5 rfl
  have zs : (w.heap.size) < (w.alloc (.cells #[.int .i64 m.v, .int .i64 m.c, .int .i64 m.s, .int .i64 m.r, .int .i64 m.t, .slice va L.length vc] 27)).heap.size := H2.out.2.2
  go_wp2_with fail
  refine (slot_any m _ L _ (HL.out.step H1.out) h9 H8.out).mono ?_
  rintro e u1 ⟨rfl, b1⟩
  clear xs0 xs1 xs2 xs3 xs4 xs5 zs
  have H3 := Lib.hid (H2.out.step b1)
  clear H2
  have H4 := Lib.hid (keep2 b1 H1.out)
  clear H1
  clear b1
  rw [HM.out]
  have xs0 : u1.cell? ⟨(w.heap.size), 0, none⟩ = some (.int .i64 m.v) := H3.out.c 0 rfl
  have xs1 : u1.cell? ⟨(w.heap.size), 1, none⟩ = some (.int .i64 m.c) := H3.out.c 1 rfl
  have xs2 : u1.cell? ⟨(w.heap.size), 2, none⟩ = some (.int .i64 m.s) := H3.out.c 2 rfl
  have xs3 : u1.cell? ⟨(w.heap.size), 3, none⟩ = some (.int .i64 m.r) := H3.out.c 3 rfl
  have xs4 : u1.cell? ⟨(w.heap.size), 4, none⟩ = some (.int .i64 m.t) := H3.out.c 4 rfl
  have xs5 : u1.cell? ⟨(w.heap.size), 5, none⟩ = some (.slice va L.length vc) := H3.out.c 5 rfl
  have zs : (w.heap.size) < u1.heap.size := H3.out.2.2
  go_wp2_with fail
  refine (miss_any m _ L _ (HL.out.step H4.out) h9 H8.out).mono ?_
  rintro e u2 ⟨u, rfl, hu, b2⟩
  clear xs0 xs1 xs2 xs3 xs4 xs5 zs
  have H5 := Lib.hid (H3.out.step b2)
  clear H3
  have H6 := Lib.hid (keep2 b2 H4.out)
  clear H4
  clear b2
  rw [show msB m L = msL L by unfold msB; rw [if_pos HM.out]] at hu
  obtain ⟨ua, uc, rfl, -, -⟩ := hu
  have t1 : ¬ (0 : Int) < ((msL L).length : Int) := by have := HN.out; omega
  have t2 : decide ((0 : Int) < ((msL L).length : Int)) = false := decide_eq_false t1
  have t3 : (msL L).length = 0 := by have := HN.out; omega
  rw [t3] at t1 t2 ⊢
  clear t3
  have xs0 : u2.cell? ⟨(w.heap.size), 0, none⟩ = some (.int .i64 m.v) := H5.out.c 0 rfl
  have xs1 : u2.cell? ⟨(w.heap.size), 1, none⟩ = some (.int .i64 m.c) := H5.out.c 1 rfl
  have xs2 : u2.cell? ⟨(w.heap.size), 2, none⟩ = some (.int .i64 m.s) := H5.out.c 2 rfl
  have xs3 : u2.cell? ⟨(w.heap.size), 3, none⟩ = some (.int .i64 m.r) := H5.out.c 3 rfl
  have xs4 : u2.cell? ⟨(w.heap.size), 4, none⟩ = some (.int .i64 m.t) := H5.out.c 4 rfl
  have xs5 : u2.cell? ⟨(w.heap.size), 5, none⟩ = some (.slice va L.length vc) := H5.out.c 5 rfl
  have zs : (w.heap.size) < u2.heap.size := H5.out.2.2
  go_wp2_with fail
  refine (concat_any _ L _ (HL.out.step H6.out) h9 H7.out).mono ?_
  rintro e u3 ⟨u, rfl, hu, b3⟩
  clear xs0 xs1 xs2 xs3 xs4 xs5 zs
  have H7 := Lib.hid (H5.out.step b3)
  clear H5
  have H8 := Lib.hid (keep2 b3 H6.out)
  clear H6
  clear b3
  have HU := Lib.hid hu
  clear hu
  go_wp2
  exact bodyPost_ret (v := .tuple #[u, .int .i64 0]) (by simp [results, Try.results17, go_sem]) rfl ⟨_, rfl, HU.out, H8.out⟩
set_option maxRecDepth 100000 in
set_option maxHeartbeats 8000000 in
theorem join_any (m : Mf) (v : Value) (L : List (List Int)) (w : World) (h : RowsAt w v L) (h9 : L.length ≤ 1000) (h8 : ∀ x ∈ L, x.length ≤ 1000) (h7 : L.flatten.length ≤ 5000) {E : Int} {D : List Int} (hE : joE m L = E) (hD : joD E L = D) : Calls Try.prog 17 #[.agg #[.int .i64 m.v, .int .i64 m.c, .int .i64 m.s, .int .i64 m.r, .int .i64 m.t, v]] w (fun e w' => ∃ u, e = .returned (.tuple #[u, .int .i64 E]) ∧ IntsAt w' u D ∧ Below w.heap.size w w') := by
  subst hD hE
  cases hm : slB m L
  · have : joE m L = 1 := by unfold joE; rw [if_pos hm]
    rw [this]; exact join_s m v L w h h9 h8 h7 hm
  · by_cases hn : 0 < (msL L).length
    · have : joE m L = 28 := by unfold joE; rw [if_neg (by rw [hm]; simp), if_pos hn]
      rw [this]; exact join_m m v L w h h9 h8 h7 hm hn
    · have : joE m L = 0 := by unfold joE; rw [if_neg (by rw [hm]; simp), if_neg hn]
      rw [this]; exact join_ok m v L w h h9 h8 h7 hm hn
end Go.Proofs.Yteodafhgfcbdpaa
