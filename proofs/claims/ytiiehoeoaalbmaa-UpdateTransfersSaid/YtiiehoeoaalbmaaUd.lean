/- Updates: well-formed slots; which pieces are missing. -/
import Derived.Test.YtiiehoeoaalbmaaUc
import Derived.Deep.CutRange
namespace Go.Proofs.Ytiiehoeoaalbmaa
open Go.RowKit

/-- A slot's piece is as it can be. -/
def slP (m : Mf) (L : List (List Int)) (i : Nat) : Bool := (L.getD i []).isEmpty || ftB m i (L.getD i [])
def slB (m : Mf) (L : List (List Int)) : Bool := mfB m && (decide ((L.length : Int) = m.c) && (List.range L.length).all (slP m L))
theorem sl_all {m : Mf} {L : List (List Int)} (h : ∀ j, j < L.length → slP m L j = true) : (List.range L.length).all (slP m L) = true := by
  rw [List.all_eq_true]; intro j hj; exact h j (List.mem_range.1 hj)
theorem sl_hit {m : Mf} {L : List (List Int)} {k : Nat} (h : k < L.length) (hb : slP m L k = false) : (List.range L.length).all (slP m L) = false := by
  rw [List.all_eq_false]; exact ⟨k, List.mem_range.2 h, by rw [hb]; exact Bool.false_ne_true⟩
theorem rows_at {w : World} {va : Option Addr} {vc : Nat} {L : List (List Int)} (h : RowsAt w (.slice va L.length vc) L) {k : Nat} (hk : k < L.length) : ∃ b off, va = some ⟨b, off, none⟩ ∧ ∃ ya yc, w.cell? ⟨b, off + k, none⟩ = some (.slice ya (L.getD k []).length yc) ∧ b < w.heap.size ∧ IntsAt w (.slice ya (L.getD k []).length yc) (L.getD k []) := by
  obtain ⟨a, c, e, -, h⟩ := h
  obtain ⟨b, off, e1, hx⟩ := h (by intro q; rw [q] at hk; simp at hk)
  obtain ⟨u, hu, hi⟩ := hx k _ (rows_get hk)
  have : va = a := by simp at e; exact e.1
  obtain ⟨ya, yc, rfl, q1, q2⟩ := hi
  exact ⟨b, off, this.trans e1, ya, yc, hu, World.block_lt_of_cell? _ _ hu, ya, yc, rfl, q1, q2⟩
def msN (L : List (List Int)) (k : Nat) : List Int := ((List.range k).filter fun i => (L.getD i []).isEmpty).map fun i : Nat => (i : Int)
theorem msN_succ (L : List (List Int)) (k : Nat) : msN L (k + 1) = msN L k ++ (if (L.getD k []).isEmpty = true then [(k : Int)] else []) := by
  unfold msN
  rw [List.range_succ, List.filter_append, List.map_append]
  congr 1
  rw [List.filter_cons, List.filter_nil]
  cases (L.getD k []).isEmpty <;> rfl
theorem msN_len (L : List (List Int)) (k : Nat) : (msN L k).length ≤ k := by
  unfold msN
  rw [List.length_map]
  exact Nat.le_trans (List.length_filter_le _ _) (by simp)
def msL (L : List (List Int)) : List Int := msN L L.length
def msB (m : Mf) (L : List (List Int)) : List Int := if slB m L = true then msL L else []
theorem below_ownU {w wr w1 : World} {t : TypeId} {v : Value} {o : Obj} {n : Nat} {xs : List Value} {B s : Nat} (hBw : B ≤ w.heap.size) (hB : Below B w wr) (hrow : wr.ownsRow B t s v n xs) (hg : (wr.alloc o).grownBy w1 v.ownBlock) : Below B w w1 := below_own hBw hB hrow hg
set_option maxRecDepth 100000 in
set_option maxHeartbeats 8000000 in
theorem slot_m (m : Mf) (v : Value) (L : List (List Int)) (w : World) (h : RowsAt w v L) (_ : L.length ≤ 1000) (h8 : ∀ x ∈ L, x.length ≤ 1000) (hm : mfB m = false) : Calls Try.prog 51 #[.agg #[.int .i64 m.v, .int .i64 m.c, .int .i64 m.s, .int .i64 m.r, .int .i64 m.t, v]] w fun e w' => e = .returned (.bool (slB m L)) ∧ Below w.heap.size w w' := by
  have HR := Lib.hid (show slB m L = false by unfold slB; rw [hm]; simp)
  have HM := Lib.hid hm
  clear hm
  have HL := Lib.hid h
  have H8 := Lib.hid h8
  obtain ⟨va, vc, rfl, -, -⟩ := h
  clear h8
  have H0 := Lib.hid (Below.refl w.heap.size w)
  have H1 := Lib.hid (keep2 (al w (.cells #[.int .i64 m.v, .int .i64 m.c, .int .i64 m.s, .int .i64 m.r, .int .i64 m.t, .slice va L.length vc] 27)) H0.out)
  clear H0
  have H2 := Lib.hid (Cs.new w (w.heap.size) #[.int .i64 m.v, .int .i64 m.c, .int .i64 m.s, .int .i64 m.r, .int .i64 m.t, .slice va L.length vc] 27 (by simp))
  go_enter Try.func51, Try.ntmps51
  have xs0 : (w.alloc (.cells #[.int .i64 m.v, .int .i64 m.c, .int .i64 m.s, .int .i64 m.r, .int .i64 m.t, .slice va L.length vc] 27)).cell? ⟨(w.heap.size), 0, none⟩ = some (.int .i64 m.v) := H2.out.c 0 rfl
  have xs1 : (w.alloc (.cells #[.int .i64 m.v, .int .i64 m.c, .int .i64 m.s, .int .i64 m.r, .int .i64 m.t, .slice va L.length vc] 27)).cell? ⟨(w.heap.size), 1, none⟩ = some (.int .i64 m.c) := H2.out.c 1 rfl
  have xs2 : (w.alloc (.cells #[.int .i64 m.v, .int .i64 m.c, .int .i64 m.s, .int .i64 m.r, .int .i64 m.t, .slice va L.length vc] 27)).cell? ⟨(w.heap.size), 2, none⟩ = some (.int .i64 m.s) := H2.out.c 2 rfl
  have xs3 : (w.alloc (.cells #[.int .i64 m.v, .int .i64 m.c, .int .i64 m.s, .int .i64 m.r, .int .i64 m.t, .slice va L.length vc] 27)).cell? ⟨(w.heap.size), 3, none⟩ = some (.int .i64 m.r) := H2.out.c 3 rfl
  have xs4 : (w.alloc (.cells #[.int .i64 m.v, .int .i64 m.c, .int .i64 m.s, .int .i64 m.r, .int .i64 m.t, .slice va L.length vc] 27)).cell? ⟨(w.heap.size), 4, none⟩ = some (.int .i64 m.t) := H2.out.c 4 rfl
  have xs5 : (w.alloc (.cells #[.int .i64 m.v, .int .i64 m.c, .int .i64 m.s, .int .i64 m.r, .int .i64 m.t, .slice va L.length vc] 27)).cell? ⟨(w.heap.size), 5, none⟩ = some (.slice va L.length vc) := H2.out.c 5 rfl
  have zs : (w.heap.size) < (w.alloc (.cells #[.int .i64 m.v, .int .i64 m.c, .int .i64 m.s, .int .i64 m.r, .int .i64 m.t, .slice va L.length vc] 27)).heap.size := H2.out.2.2
  go_wp2_with fail
  refine (manif_any m _).mono ?_
  rintro e u1 ⟨rfl, b1⟩
  clear xs0 xs1 xs2 xs3 xs4 xs5 zs
  have H3 := Lib.hid (H2.out.step b1)
  clear H2
  have H4 := Lib.hid (keep2 b1 H1.out)
  clear H1
  clear b1
  rw [HM.out]
  have xs0 : u1.cell? ⟨(w.heap.size), 0, none⟩ = some (.int .i64 m.v) := H3.out.c 0 rfl
  have xs1 : u1.cell? ⟨(w.heap.size), 1, none⟩ = some (.int .i64 m.c) := H3.out.c 1 rfl
  have xs2 : u1.cell? ⟨(w.heap.size), 2, none⟩ = some (.int .i64 m.s) := H3.out.c 2 rfl
  have xs3 : u1.cell? ⟨(w.heap.size), 3, none⟩ = some (.int .i64 m.r) := H3.out.c 3 rfl
  have xs4 : u1.cell? ⟨(w.heap.size), 4, none⟩ = some (.int .i64 m.t) := H3.out.c 4 rfl
  have xs5 : u1.cell? ⟨(w.heap.size), 5, none⟩ = some (.slice va L.length vc) := H3.out.c 5 rfl
  have zs : (w.heap.size) < u1.heap.size := H3.out.2.2
  go_wp2
  go_ret
  exact ⟨ret_bool HR.out.symm, H4.out⟩
set_option maxRecDepth 100000 in
set_option maxHeartbeats 8000000 in
theorem slot_l (m : Mf) (v : Value) (L : List (List Int)) (w : World) (h : RowsAt w v L) (_ : L.length ≤ 1000) (h8 : ∀ x ∈ L, x.length ≤ 1000) (hm : mfB m = true) (hc : ¬ (L.length : Int) = m.c) : Calls Try.prog 51 #[.agg #[.int .i64 m.v, .int .i64 m.c, .int .i64 m.s, .int .i64 m.r, .int .i64 m.t, v]] w fun e w' => e = .returned (.bool (slB m L)) ∧ Below w.heap.size w w' := by
  have HR := Lib.hid (show slB m L = false by unfold slB; rw [decide_eq_false hc]; simp)
  have HM := Lib.hid hm
  clear hm
  have HL := Lib.hid h
  have H8 := Lib.hid h8
  obtain ⟨va, vc, rfl, -, -⟩ := h
  clear h8
  have H0 := Lib.hid (Below.refl w.heap.size w)
  have H1 := Lib.hid (keep2 (al w (.cells #[.int .i64 m.v, .int .i64 m.c, .int .i64 m.s, .int .i64 m.r, .int .i64 m.t, .slice va L.length vc] 27)) H0.out)
  clear H0
  have H2 := Lib.hid (Cs.new w (w.heap.size) #[.int .i64 m.v, .int .i64 m.c, .int .i64 m.s, .int .i64 m.r, .int .i64 m.t, .slice va L.length vc] 27 (by simp))
  go_enter Try.func51, Try.ntmps51
  have xs0 : (w.alloc (.cells #[.int .i64 m.v, .int .i64 m.c, .int .i64 m.s, .int .i64 m.r, .int .i64 m.t, .slice va L.length vc] 27)).cell? ⟨(w.heap.size), 0, none⟩ = some (.int .i64 m.v) := H2.out.c 0 rfl
  have xs1 : (w.alloc (.cells #[.int .i64 m.v, .int .i64 m.c, .int .i64 m.s, .int .i64 m.r, .int .i64 m.t, .slice va L.length vc] 27)).cell? ⟨(w.heap.size), 1, none⟩ = some (.int .i64 m.c) := H2.out.c 1 rfl
  have xs2 : (w.alloc (.cells #[.int .i64 m.v, .int .i64 m.c, .int .i64 m.s, .int .i64 m.r, .int .i64 m.t, .slice va L.length vc] 27)).cell? ⟨(w.heap.size), 2, none⟩ = some (.int .i64 m.s) := H2.out.c 2 rfl
  have xs3 : (w.alloc (.cells #[.int .i64 m.v, .int .i64 m.c, .int .i64 m.s, .int .i64 m.r, .int .i64 m.t, .slice va L.length vc] 27)).cell? ⟨(w.heap.size), 3, none⟩ = some (.int .i64 m.r) := H2.out.c 3 rfl
  have xs4 : (w.alloc (.cells #[.int .i64 m.v, .int .i64 m.c, .int .i64 m.s, .int .i64 m.r, .int .i64 m.t, .slice va L.length vc] 27)).cell? ⟨(w.heap.size), 4, none⟩ = some (.int .i64 m.t) := H2.out.c 4 rfl
  have xs5 : (w.alloc (.cells #[.int .i64 m.v, .int .i64 m.c, .int .i64 m.s, .int .i64 m.r, .int .i64 m.t, .slice va L.length vc] 27)).cell? ⟨(w.heap.size), 5, none⟩ = some (.slice va L.length vc) := H2.out.c 5 rfl
  have zs : (w.heap.size) < (w.alloc (.cells #[.int .i64 m.v, .int .i64 m.c, .int .i64 m.s, .int .i64 m.r, .int .i64 m.t, .slice va L.length vc] 27)).heap.size := H2.out.2.2
  go_wp2_with fail
  refine (manif_any m _).mono ?_
  rintro e u1 ⟨rfl, b1⟩
  clear xs0 xs1 xs2 xs3 xs4 xs5 zs
  have H3 := Lib.hid (H2.out.step b1)
  clear H2
  have H4 := Lib.hid (keep2 b1 H1.out)
  clear H1
  clear b1
  rw [HM.out]
  have xs0 : u1.cell? ⟨(w.heap.size), 0, none⟩ = some (.int .i64 m.v) := H3.out.c 0 rfl
  have xs1 : u1.cell? ⟨(w.heap.size), 1, none⟩ = some (.int .i64 m.c) := H3.out.c 1 rfl
  have xs2 : u1.cell? ⟨(w.heap.size), 2, none⟩ = some (.int .i64 m.s) := H3.out.c 2 rfl
  have xs3 : u1.cell? ⟨(w.heap.size), 3, none⟩ = some (.int .i64 m.r) := H3.out.c 3 rfl
  have xs4 : u1.cell? ⟨(w.heap.size), 4, none⟩ = some (.int .i64 m.t) := H3.out.c 4 rfl
  have xs5 : u1.cell? ⟨(w.heap.size), 5, none⟩ = some (.slice va L.length vc) := H3.out.c 5 rfl
  have zs : (w.heap.size) < u1.heap.size := H3.out.2.2
  have t1 : ((L.length : Int) != m.c) = true := by simpa using hc
  have t2 : ((L.length : Int) == m.c) = false := by simpa using hc
  go_wp2
  go_ret
  exact ⟨ret_bool HR.out.symm, H4.out⟩
set_option maxRecDepth 100000 in
set_option maxHeartbeats 8000000 in
theorem slot_go (m : Mf) (v : Value) (L : List (List Int)) (w : World) (h : RowsAt w v L) (h9 : L.length ≤ 1000) (h8 : ∀ x ∈ L, x.length ≤ 1000) (hm : mfB m = true) (hc : (L.length : Int) = m.c) : Calls Try.prog 51 #[.agg #[.int .i64 m.v, .int .i64 m.c, .int .i64 m.s, .int .i64 m.r, .int .i64 m.t, v]] w fun e w' => e = .returned (.bool (slB m L)) ∧ Below w.heap.size w w' := by
  have HM := Lib.hid hm
  have HC := Lib.hid hc
  clear hm hc
  have HL := Lib.hid h
  have H8 := Lib.hid h8
  obtain ⟨va, vc, rfl, -, -⟩ := h
  clear h8
  have H0 := Lib.hid (Below.refl w.heap.size w)
  have H1 := Lib.hid (keep2 (al w (.cells #[.int .i64 m.v, .int .i64 m.c, .int .i64 m.s, .int .i64 m.r, .int .i64 m.t, .slice va L.length vc] 27)) H0.out)
  clear H0
  have H2 := Lib.hid (Cs.new w (w.heap.size) #[.int .i64 m.v, .int .i64 m.c, .int .i64 m.s, .int .i64 m.r, .int .i64 m.t, .slice va L.length vc] 27 (by simp))
  go_enter Try.func51, Try.ntmps51
  have xs0 : (w.alloc (.cells #[.int .i64 m.v, .int .i64 m.c, .int .i64 m.s, .int .i64 m.r, .int .i64 m.t, .slice va L.length vc] 27)).cell? ⟨(w.heap.size), 0, none⟩ = some (.int .i64 m.v) := H2.out.c 0 rfl
  have xs1 : (w.alloc (.cells #[.int .i64 m.v, .int .i64 m.c, .int .i64 m.s, .int .i64 m.r, .int .i64 m.t, .slice va L.length vc] 27)).cell? ⟨(w.heap.size), 1, none⟩ = some (.int .i64 m.c) := H2.out.c 1 rfl
  have xs2 : (w.alloc (.cells #[.int .i64 m.v, .int .i64 m.c, .int .i64 m.s, .int .i64 m.r, .int .i64 m.t, .slice va L.length vc] 27)).cell? ⟨(w.heap.size), 2, none⟩ = some (.int .i64 m.s) := H2.out.c 2 rfl
  have xs3 : (w.alloc (.cells #[.int .i64 m.v, .int .i64 m.c, .int .i64 m.s, .int .i64 m.r, .int .i64 m.t, .slice va L.length vc] 27)).cell? ⟨(w.heap.size), 3, none⟩ = some (.int .i64 m.r) := H2.out.c 3 rfl
  have xs4 : (w.alloc (.cells #[.int .i64 m.v, .int .i64 m.c, .int .i64 m.s, .int .i64 m.r, .int .i64 m.t, .slice va L.length vc] 27)).cell? ⟨(w.heap.size), 4, none⟩ = some (.int .i64 m.t) := H2.out.c 4 rfl
  have xs5 : (w.alloc (.cells #[.int .i64 m.v, .int .i64 m.c, .int .i64 m.s, .int .i64 m.r, .int .i64 m.t, .slice va L.length vc] 27)).cell? ⟨(w.heap.size), 5, none⟩ = some (.slice va L.length vc) := H2.out.c 5 rfl
  have zs : (w.heap.size) < (w.alloc (.cells #[.int .i64 m.v, .int .i64 m.c, .int .i64 m.s, .int .i64 m.r, .int .i64 m.t, .slice va L.length vc] 27)).heap.size := H2.out.2.2
  go_wp2_with fail
  refine (manif_any m _).mono ?_
  rintro e u1 ⟨rfl, b1⟩
  clear xs0 xs1 xs2 xs3 xs4 xs5 zs
  have H3 := Lib.hid (H2.out.step b1)
  clear H2
  have H4 := Lib.hid (keep2 b1 H1.out)
  clear H1
  clear b1
  rw [HM.out]
  have xs0 : u1.cell? ⟨(w.heap.size), 0, none⟩ = some (.int .i64 m.v) := H3.out.c 0 rfl
  have xs1 : u1.cell? ⟨(w.heap.size), 1, none⟩ = some (.int .i64 m.c) := H3.out.c 1 rfl
  have xs2 : u1.cell? ⟨(w.heap.size), 2, none⟩ = some (.int .i64 m.s) := H3.out.c 2 rfl
  have xs3 : u1.cell? ⟨(w.heap.size), 3, none⟩ = some (.int .i64 m.r) := H3.out.c 3 rfl
  have xs4 : u1.cell? ⟨(w.heap.size), 4, none⟩ = some (.int .i64 m.t) := H3.out.c 4 rfl
  have xs5 : u1.cell? ⟨(w.heap.size), 5, none⟩ = some (.slice va L.length vc) := H3.out.c 5 rfl
  have zs : (w.heap.size) < u1.heap.size := H3.out.2.2
  have t1 : ((L.length : Int) != m.c) = false := by simpa using HC.out
  have t2 : ((L.length : Int) == m.c) = true := by simpa using HC.out
  go_wp2_with fail
  clear xs0 xs1 xs2 xs3 xs4 xs5 zs
  clear t1 t2
  go_loopw [21] (fun iv wr => ∃ k : Nat, k ≤ L.length ∧ iv = .int .i64 (k : Int) ∧ Hid (∀ j, j < k → slP m L j = true) ∧ Hid (Below u1.heap.size u1 wr)) (fun iv _ => L.length - (intOf iv).toNat)
  case atStart => exact ⟨0, by omega, rfl, Lib.hid (fun j h => absurd h (by omega)), Lib.hid (Below.refl _ _)⟩
  case round =>
    obtain ⟨k, hk, rfl, HN, HW⟩ := hrel
    have HS := Lib.hid (H3.out.step HW.out)
    have HB := Lib.hid (keep2 HW.out H4.out)
    by_cases hlt : k < L.length
    rotate_left
    · obtain rfl : k = L.length := by omega
      have HA := Lib.hid (show slB m L = true by unfold slB; rw [HM.out, decide_eq_true HC.out, sl_all HN.out]; rfl)
      have t3 : ¬ (L.length : Int) < (L.length : Int) := by omega
      go_wp2
      go_ret
      exact ⟨ret_bool HA.out.symm, HB.out⟩
    have HIL := Lib.hid hlt
    have HHT := Lib.hid (sl_hit (m := m) hlt)
    have h8 := H8.out _ (getD_memL hlt)
    have HN2 := Lib.hid (show slP m L k = true → ∀ j, j < k + 1 → slP m L j = true from fun hx j h => by
      by_cases e : j = k
      · subst e; exact hx
      · exact HN.out j (by omega))
    have HP := Lib.hid (show slP m L k = ((L.getD k []).isEmpty || ftB m k (L.getD k [])) from rfl)
    obtain ⟨bb, off, rfl, ya, yc, x0, xz, hy⟩ := rows_at (HL.out.step HB.out) hlt
    have HY := Lib.hid hy
    clear hy
    have t3 : (k : Int) < (L.length : Int) := by omega
    obtain ⟨x, hx⟩ : ∃ z9, L.getD k [] = z9 := ⟨_, rfl⟩
    rw [hx] at x0 HY h8 HP
    clear hx
    cases x with
    | nil =>
      have HP1 := Lib.hid (HN2.out (by rw [HP.out]; rfl))
      simp only [List.length_nil] at x0
      have xs0 : wr.cell? ⟨(w.heap.size), 0, none⟩ = some (.int .i64 m.v) := HS.out.c 0 rfl
      have xs1 : wr.cell? ⟨(w.heap.size), 1, none⟩ = some (.int .i64 m.c) := HS.out.c 1 rfl
      have xs2 : wr.cell? ⟨(w.heap.size), 2, none⟩ = some (.int .i64 m.s) := HS.out.c 2 rfl
      have xs3 : wr.cell? ⟨(w.heap.size), 3, none⟩ = some (.int .i64 m.r) := HS.out.c 3 rfl
      have xs4 : wr.cell? ⟨(w.heap.size), 4, none⟩ = some (.int .i64 m.t) := HS.out.c 4 rfl
      have xs5 : wr.cell? ⟨(w.heap.size), 5, none⟩ = some (.slice (some ⟨bb, off, none⟩) L.length vc) := HS.out.c 5 rfl
      have zs : (w.heap.size) < wr.heap.size := HS.out.2.2
      go_wp2
      go_roundw
      case rel => exact ⟨k + 1, HIL.out, by go_num, HP1, HW⟩
      case measure => have := HIL.out; simp [intOf]; omega
    | cons y x =>
      have t0 : 0 < (y :: x).length := by simp
      have t4 : (0 : Int) < ((y :: x).length : Int) := by omega
      have t5 : decide ((0 : Int) < ((y :: x).length : Int)) = true := decide_eq_true t4
      obtain ⟨z, hz⟩ : ∃ z9, y :: x = z9 := ⟨_, rfl⟩
      rw [hz] at x0 HY h8 HP t0 t4 t5
      clear hz
      have t6 : 0 < z.length := by omega
      have t7 : ¬ z = [] := by intro e; rw [e] at t6; simp at t6
      have HP2 := Lib.hid (show slP m L k = ftB m k z by rw [HP.out]; cases z with
        | nil => exact absurd rfl t7
        | cons a b => rfl)
      have xs0 : wr.cell? ⟨(w.heap.size), 0, none⟩ = some (.int .i64 m.v) := HS.out.c 0 rfl
      have xs1 : wr.cell? ⟨(w.heap.size), 1, none⟩ = some (.int .i64 m.c) := HS.out.c 1 rfl
      have xs2 : wr.cell? ⟨(w.heap.size), 2, none⟩ = some (.int .i64 m.s) := HS.out.c 2 rfl
      have xs3 : wr.cell? ⟨(w.heap.size), 3, none⟩ = some (.int .i64 m.r) := HS.out.c 3 rfl
      have xs4 : wr.cell? ⟨(w.heap.size), 4, none⟩ = some (.int .i64 m.t) := HS.out.c 4 rfl
      have xs5 : wr.cell? ⟨(w.heap.size), 5, none⟩ = some (.slice (some ⟨bb, off, none⟩) L.length vc) := HS.out.c 5 rfl
      have zs : (w.heap.size) < wr.heap.size := HS.out.2.2
      go_wp2_with fail
      clear t4 t5 t6 t7
      refine (fit_any m k _ z _ HY.out HM.out).mono ?_
      rintro e u2 ⟨rfl, b2⟩
      clear xs0 xs1 xs2 xs3 xs4 xs5 zs
      have H5 := Lib.hid (HS.out.step b2)
      clear HS
      have H6 := Lib.hid (keep2 b2 HB.out)
      clear HB
      have HBX := Lib.hid b2
      clear b2
      cases hf : ftB m k z
      · have HA := Lib.hid (show slB m L = false by unfold slB; rw [HM.out, decide_eq_true HC.out, HHT.out (by rw [HP2.out]; exact hf)]; rfl)
        go_wp2
        go_ret
        exact ⟨ret_bool HA.out.symm, H6.out⟩
      · have HP3 := Lib.hid (HN2.out (by rw [HP2.out]; exact hf))
        have HW2 := Lib.hid (keep2 HBX.out HW.out)
        go_wp2
        go_roundw
        case rel => exact ⟨k + 1, HIL.out, by go_num, HP3, HW2⟩
        case measure => have := HIL.out; simp [intOf]; omega
set_option maxRecDepth 100000 in
set_option maxHeartbeats 8000000 in
theorem slot_any (m : Mf) (v : Value) (L : List (List Int)) (w : World) (h : RowsAt w v L) (h9 : L.length ≤ 1000) (h8 : ∀ x ∈ L, x.length ≤ 1000) : Calls Try.prog 51 #[.agg #[.int .i64 m.v, .int .i64 m.c, .int .i64 m.s, .int .i64 m.r, .int .i64 m.t, v]] w fun e w' => e = .returned (.bool (slB m L)) ∧ Below w.heap.size w w' := by
  cases hm : mfB m
  · exact slot_m m v L w h h9 h8 hm
  · by_cases hc : (L.length : Int) = m.c
    · exact slot_go m v L w h h9 h8 hm hc
    · exact slot_l m v L w h h9 h8 hm hc
set_option maxRecDepth 100000 in
set_option maxHeartbeats 8000000 in
theorem miss_no (m : Mf) (v : Value) (L : List (List Int)) (w : World) (h : RowsAt w v L) (h9 : L.length ≤ 1000) (h8 : ∀ x ∈ L, x.length ≤ 1000) (hm : slB m L = false) : Calls Try.prog 22 #[.agg #[.int .i64 m.v, .int .i64 m.c, .int .i64 m.s, .int .i64 m.r, .int .i64 m.t, v]] w (fun e w' => ∃ u, e = .returned u ∧ IntsAt w' u (msB m L) ∧ Below w.heap.size w w') := by
  have HR := Lib.hid (show msB m L = [] by unfold msB; rw [hm]; rfl)
  have HM := Lib.hid hm
  clear hm
  have HL := Lib.hid h
  have H8 := Lib.hid h8
  obtain ⟨va, vc, rfl, -, -⟩ := h
  clear h8
  have H0 := Lib.hid (Below.refl w.heap.size w)
  have H1 := Lib.hid (keep2 (al w (.cells #[.int .i64 m.v, .int .i64 m.c, .int .i64 m.s, .int .i64 m.r, .int .i64 m.t, .slice va L.length vc] 27)) H0.out)
  clear H0
  have H2 := Lib.hid (Cs.new w (w.heap.size) #[.int .i64 m.v, .int .i64 m.c, .int .i64 m.s, .int .i64 m.r, .int .i64 m.t, .slice va L.length vc] 27 (by simp))
  go_enter Try.func22, Try.ntmps22
  have xs0 : (w.alloc (.cells #[.int .i64 m.v, .int .i64 m.c, .int .i64 m.s, .int .i64 m.r, .int .i64 m.t, .slice va L.length vc] 27)).cell? ⟨(w.heap.size), 0, none⟩ = some (.int .i64 m.v) := H2.out.c 0 rfl
  have xs1 : (w.alloc (.cells #[.int .i64 m.v, .int .i64 m.c, .int .i64 m.s, .int .i64 m.r, .int .i64 m.t, .slice va L.length vc] 27)).cell? ⟨(w.heap.size), 1, none⟩ = some (.int .i64 m.c) := H2.out.c 1 rfl
  have xs2 : (w.alloc (.cells #[.int .i64 m.v, .int .i64 m.c, .int .i64 m.s, .int .i64 m.r, .int .i64 m.t, .slice va L.length vc] 27)).cell? ⟨(w.heap.size), 2, none⟩ = some (.int .i64 m.s) := H2.out.c 2 rfl
  have xs3 : (w.alloc (.cells #[.int .i64 m.v, .int .i64 m.c, .int .i64 m.s, .int .i64 m.r, .int .i64 m.t, .slice va L.length vc] 27)).cell? ⟨(w.heap.size), 3, none⟩ = some (.int .i64 m.r) := H2.out.c 3 rfl
  have xs4 : (w.alloc (.cells #[.int .i64 m.v, .int .i64 m.c, .int .i64 m.s, .int .i64 m.r, .int .i64 m.t, .slice va L.length vc] 27)).cell? ⟨(w.heap.size), 4, none⟩ = some (.int .i64 m.t) := H2.out.c 4 rfl
  have xs5 : (w.alloc (.cells #[.int .i64 m.v, .int .i64 m.c, .int .i64 m.s, .int .i64 m.r, .int .i64 m.t, .slice va L.length vc] 27)).cell? ⟨(w.heap.size), 5, none⟩ = some (.slice va L.length vc) := H2.out.c 5 rfl
  have zs : (w.heap.size) < (w.alloc (.cells #[.int .i64 m.v, .int .i64 m.c, .int .i64 m.s, .int .i64 m.r, .int .i64 m.t, .slice va L.length vc] 27)).heap.size := H2.out.2.2
  go_wp2_with fail
  refine (slot_any m _ L _ (HL.out.step H1.out) h9 H8.out).mono ?_
  rintro e u1 ⟨rfl, b1⟩
  clear xs0 xs1 xs2 xs3 xs4 xs5 zs
  have H3 := Lib.hid (H2.out.step b1)
  clear H2
  have H4 := Lib.hid (keep2 b1 H1.out)
  clear H1
  clear b1
  rw [HM.out]
  have xs0 : u1.cell? ⟨(w.heap.size), 0, none⟩ = some (.int .i64 m.v) := H3.out.c 0 rfl
  have xs1 : u1.cell? ⟨(w.heap.size), 1, none⟩ = some (.int .i64 m.c) := H3.out.c 1 rfl
  have xs2 : u1.cell? ⟨(w.heap.size), 2, none⟩ = some (.int .i64 m.s) := H3.out.c 2 rfl
  have xs3 : u1.cell? ⟨(w.heap.size), 3, none⟩ = some (.int .i64 m.r) := H3.out.c 3 rfl
  have xs4 : u1.cell? ⟨(w.heap.size), 4, none⟩ = some (.int .i64 m.t) := H3.out.c 4 rfl
  have xs5 : u1.cell? ⟨(w.heap.size), 5, none⟩ = some (.slice va L.length vc) := H3.out.c 5 rfl
  have zs : (w.heap.size) < u1.heap.size := H3.out.2.2
  go_wp2
  go_ret
  exact ⟨_, rfl, by rw [HR.out]; exact ints_nil _, H4.out⟩
set_option maxRecDepth 100000 in
set_option maxHeartbeats 8000000 in
theorem miss_go (m : Mf) (v : Value) (L : List (List Int)) (w : World) (h : RowsAt w v L) (h9 : L.length ≤ 1000) (h8 : ∀ x ∈ L, x.length ≤ 1000) (hm : slB m L = true) : Calls Try.prog 22 #[.agg #[.int .i64 m.v, .int .i64 m.c, .int .i64 m.s, .int .i64 m.r, .int .i64 m.t, v]] w (fun e w' => ∃ u, e = .returned u ∧ IntsAt w' u (msB m L) ∧ Below w.heap.size w w') := by
  have HR := Lib.hid (show msB m L = msN L L.length by unfold msB; rw [hm]; rfl)
  have HM := Lib.hid hm
  have H9 := Lib.hid h9
  clear hm
  have HL := Lib.hid h
  have H8 := Lib.hid h8
  obtain ⟨va, vc, rfl, -, -⟩ := h
  clear h8
  have H0 := Lib.hid (Below.refl w.heap.size w)
  have H1 := Lib.hid (keep2 (al w (.cells #[.int .i64 m.v, .int .i64 m.c, .int .i64 m.s, .int .i64 m.r, .int .i64 m.t, .slice va L.length vc] 27)) H0.out)
  clear H0
  have H2 := Lib.hid (Cs.new w (w.heap.size) #[.int .i64 m.v, .int .i64 m.c, .int .i64 m.s, .int .i64 m.r, .int .i64 m.t, .slice va L.length vc] 27 (by simp))
  go_enter Try.func22, Try.ntmps22
  have xs0 : (w.alloc (.cells #[.int .i64 m.v, .int .i64 m.c, .int .i64 m.s, .int .i64 m.r, .int .i64 m.t, .slice va L.length vc] 27)).cell? ⟨(w.heap.size), 0, none⟩ = some (.int .i64 m.v) := H2.out.c 0 rfl
  have xs1 : (w.alloc (.cells #[.int .i64 m.v, .int .i64 m.c, .int .i64 m.s, .int .i64 m.r, .int .i64 m.t, .slice va L.length vc] 27)).cell? ⟨(w.heap.size), 1, none⟩ = some (.int .i64 m.c) := H2.out.c 1 rfl
  have xs2 : (w.alloc (.cells #[.int .i64 m.v, .int .i64 m.c, .int .i64 m.s, .int .i64 m.r, .int .i64 m.t, .slice va L.length vc] 27)).cell? ⟨(w.heap.size), 2, none⟩ = some (.int .i64 m.s) := H2.out.c 2 rfl
  have xs3 : (w.alloc (.cells #[.int .i64 m.v, .int .i64 m.c, .int .i64 m.s, .int .i64 m.r, .int .i64 m.t, .slice va L.length vc] 27)).cell? ⟨(w.heap.size), 3, none⟩ = some (.int .i64 m.r) := H2.out.c 3 rfl
  have xs4 : (w.alloc (.cells #[.int .i64 m.v, .int .i64 m.c, .int .i64 m.s, .int .i64 m.r, .int .i64 m.t, .slice va L.length vc] 27)).cell? ⟨(w.heap.size), 4, none⟩ = some (.int .i64 m.t) := H2.out.c 4 rfl
  have xs5 : (w.alloc (.cells #[.int .i64 m.v, .int .i64 m.c, .int .i64 m.s, .int .i64 m.r, .int .i64 m.t, .slice va L.length vc] 27)).cell? ⟨(w.heap.size), 5, none⟩ = some (.slice va L.length vc) := H2.out.c 5 rfl
  have zs : (w.heap.size) < (w.alloc (.cells #[.int .i64 m.v, .int .i64 m.c, .int .i64 m.s, .int .i64 m.r, .int .i64 m.t, .slice va L.length vc] 27)).heap.size := H2.out.2.2
  go_wp2_with fail
  refine (slot_any m _ L _ (HL.out.step H1.out) h9 H8.out).mono ?_
  rintro e u1 ⟨rfl, b1⟩
  clear xs0 xs1 xs2 xs3 xs4 xs5 zs
  have H3 := Lib.hid (H2.out.step b1)
  clear H2
  have H4 := Lib.hid (keep2 b1 H1.out)
  clear H1
  clear b1
  rw [HM.out]
  have xs0 : u1.cell? ⟨(w.heap.size), 0, none⟩ = some (.int .i64 m.v) := H3.out.c 0 rfl
  have xs1 : u1.cell? ⟨(w.heap.size), 1, none⟩ = some (.int .i64 m.c) := H3.out.c 1 rfl
  have xs2 : u1.cell? ⟨(w.heap.size), 2, none⟩ = some (.int .i64 m.s) := H3.out.c 2 rfl
  have xs3 : u1.cell? ⟨(w.heap.size), 3, none⟩ = some (.int .i64 m.r) := H3.out.c 3 rfl
  have xs4 : u1.cell? ⟨(w.heap.size), 4, none⟩ = some (.int .i64 m.t) := H3.out.c 4 rfl
  have xs5 : u1.cell? ⟨(w.heap.size), 5, none⟩ = some (.slice va L.length vc) := H3.out.c 5 rfl
  have zs : (w.heap.size) < u1.heap.size := H3.out.2.2
  go_wp2_with fail
  clear xs0 xs1 xs2 xs3 xs4 xs5 zs
  obtain ⟨i0, hi0, hz0, hz1, hz2⟩ := info_parts infoInt
  go_loopw [3, 12] (fun rv iv wr => ∃ k : Nat, k ≤ L.length ∧ iv = .int .i64 (k : Int) ∧ Hid (wr.ownsRow u1.heap.size 3 1 rv (msN L k).length ((msN L k).map (Value.int .i64))) ∧ Hid (Below u1.heap.size u1 wr)) (fun _ iv _ => L.length - (intOf iv).toNat)
  case atStart => exact ⟨0, by omega, rfl, Lib.hid (World.ownsRow_nil _ _ _ _), Lib.hid (Below.refl _ _)⟩
  case round =>
    obtain ⟨k, hk, rfl, HR0, HW⟩ := hrel
    have HS := Lib.hid (H3.out.step HW.out)
    have HB := Lib.hid (keep2 HW.out H4.out)
    by_cases hlt : k < L.length
    rotate_left
    · obtain rfl : k = L.length := by omega
      have t3 : ¬ (L.length : Int) < (L.length : Int) := by omega
      go_wp2
      go_ret
      exact ⟨_, rfl, by rw [HR.out]; exact ints_of_row HR0.out, HB.out⟩
    have HIL := Lib.hid hlt
    have h8 := H8.out _ (getD_memL hlt)
    have HSU := Lib.hid (msN_succ L k)
    have HML := msN_len L k
    obtain ⟨bb, off, rfl, ya, yc, x0, xz, -⟩ := rows_at (HL.out.step HB.out) hlt
    have t3 : (k : Int) < (L.length : Int) := by omega
    obtain ⟨x, hx⟩ : ∃ z9, L.getD k [] = z9 := ⟨_, rfl⟩
    rw [hx] at x0 HSU h8
    clear hx
    have g2 : L.length ≤ 1000 := H9.out
    cases x with
    | nil =>
      simp only [List.length_nil] at x0
      have HUS := Lib.hid HW.out.size
      have HNE := Lib.hid (show msN L (k + 1) = msN L k ++ [(k : Int)] from HSU.out)
      go_wp2_with (at_builtin; refine wpList_append_own _ rfl _ _ 22 rfl u1.heap.size 3 i0 _ 1 8 Try.underlying22 hi0 hz0 hz1 hz2 rfl (by decide) _ _ _ rfl (HR0.out.alloc _) ⟨wr.heap.size, 0, none⟩ 1 1 [.int .i64 (k : Int)] rfl rfl (cell_one_new _ _ _) (by simp [Value.oneCell']) (by unfold maxLen; omega) (by omega) (by have := HUS.out; simp; omega) ?_; intro v8 w8 ho8 hg8 _; have HR8 := Lib.hid ho8; have HB8 := Lib.hid (below_own (Nat.le_refl _) HW.out HR0.out hg8); clear ho8 hg8)
      go_roundw
      case rel => exact ⟨k + 1, HIL.out, by go_num, (by rw [HNE.out, List.length_append, List.map_append]; exact HR8), HB8⟩
      case measure => have := HIL.out; simp [intOf]; omega
    | cons y x =>
      have t0 : 0 < (y :: x).length := by simp
      have t4 : ((y :: x).length : Int) ≠ 0 := by omega
      have HNE := Lib.hid (show msN L (k + 1) = msN L k by rw [HSU.out]; simp)
      obtain ⟨z, hz⟩ : ∃ z9, (y :: x).length = z9 := ⟨_, rfl⟩
      rw [hz] at x0 t0 t4 h8
      clear hz
      have t5 : ((z : Int) == 0) = false := by simp; omega
      have t6 : ¬ z = 0 := by omega
      go_wp2
      go_roundw
      case rel => exact ⟨k + 1, HIL.out, by go_num, (by rw [HNE.out]; exact HR0), HW⟩
      case measure => have := HIL.out; simp [intOf]; omega
set_option maxRecDepth 100000 in
set_option maxHeartbeats 8000000 in
theorem miss_any (m : Mf) (v : Value) (L : List (List Int)) (w : World) (h : RowsAt w v L) (h9 : L.length ≤ 1000) (h8 : ∀ x ∈ L, x.length ≤ 1000) : Calls Try.prog 22 #[.agg #[.int .i64 m.v, .int .i64 m.c, .int .i64 m.s, .int .i64 m.r, .int .i64 m.t, v]] w (fun e w' => ∃ u, e = .returned u ∧ IntsAt w' u (msB m L) ∧ Below w.heap.size w w') := by
  cases hm : slB m L
  · exact miss_no m v L w h h9 h8 hm
  · exact miss_go m v L w h h9 h8 hm
end Go.Proofs.Ytiiehoeoaalbmaa
