/- The contract of the reference's 'Canonical'. -/
import Derived.Test.YtbmmmhjgidffpaaDoorR
namespace Go.Proofs.YtbmmmhjgidffpaaDoor
open Go.RowKit

/-- Whether a unit serves. -/
def rc (d v : Int) (j : Nat) : Bool := tD j == d && (tF j == 1 || (v != 0 && v.tmod (tF j) == 0))
/-- The unit after some rounds. -/
def ro (d v : Int) : Nat → Nat
  | 0 => 11
  | k + 1 => if rc d v (rk k) then rk k else ro d v k
theorem ro_le (d v : Int) (k : Nat) : ro d v k ≤ 11 := by
  induction k with
  | zero => exact Nat.le_refl _
  | succ k ih => unfold ro; split; exact Nat.le_of_lt (rk_lt k); exact ih
theorem bx_lt_iff (d : Int) : bx d < 11 ↔ 1 ≤ d ∧ d ≤ 7 := by
  constructor
  · intro h
    have := (bx_spec h).1
    have h2 : ∀ k : Nat, k < 11 → 1 ≤ tD k ∧ tD k ≤ 7 := by decide
    have := h2 _ h
    omega
  · intro ⟨h1, h2⟩
    rcases (show d = 1 ∨ d = 2 ∨ d = 3 ∨ d = 4 ∨ d = 5 ∨ d = 6 ∨ d = 7 by omega) with rfl | rfl | rfl | rfl | rfl | rfl | rfl <;> decide
theorem range11 : List.range 11 = [0, 1, 2, 3, 4, 5, 6, 7, 8, 9, 10] := rfl
set_option maxHeartbeats 2000000 in
theorem ro_all (d v : Int) (h1 : 1 ≤ d) (h2 : d ≤ 7) : ro d v 11 = cK d v := by
  have e11 : ∀ d v, ro d v 11 = if rc d v 10 then 10 else if rc d v 9 then 9 else if rc d v 7 then 7 else if rc d v 8 then 8 else if rc d v 5 then 5 else if rc d v 6 then 6 else if rc d v 2 then 2 else if rc d v 3 then 3 else if rc d v 4 then 4 else if rc d v 1 then 1 else if rc d v 0 then 0 else 11 := fun _ _ => rfl
  rw [e11]
  unfold cK bx gx
  rw [range11]
  rcases (show d = 1 ∨ d = 2 ∨ d = 3 ∨ d = 4 ∨ d = 5 ∨ d = 6 ∨ d = 7 by omega) with rfl | rfl | rfl | rfl | rfl | rfl | rfl
  · by_cases hv : v = 0 <;> simp [rc, tD, tF, List.find?, hv]
  · by_cases hv : v = 0 <;> simp [rc, tD, tF, List.find?, hv]
  · by_cases hv : v = 0
    · simp [rc, tD, tF, List.find?, hv]
    · by_cases ha : v.tmod 3600 = 0
      · simp [rc, tD, tF, List.find?, hv, ha]
      · have ha' : (v.tmod 3600 == 0) = false := by simpa using ha
        by_cases hb : v.tmod 60 = 0
        · simp [rc, tD, tF, List.find?, hv, ha', hb]
        · have hb' : (v.tmod 60 == 0) = false := by simpa using hb
          simp [rc, tD, tF, List.find?, hv, ha', hb']
  · by_cases hv : v = 0
    · simp [rc, tD, tF, List.find?, hv]
    · by_cases ha : v.tmod 1000 = 0
      · simp [rc, tD, tF, List.find?, hv, ha]
      · have ha' : (v.tmod 1000 == 0) = false := by simpa using ha
        simp [rc, tD, tF, List.find?, hv, ha']
  · by_cases hv : v = 0
    · simp [rc, tD, tF, List.find?, hv]
    · by_cases ha : v.tmod 1000 = 0
      · simp [rc, tD, tF, List.find?, hv, ha]
      · have ha' : (v.tmod 1000 == 0) = false := by simpa using ha
        simp [rc, tD, tF, List.find?, hv, ha']
  · by_cases hv : v = 0 <;> simp [rc, tD, tF, List.find?, hv]
  · by_cases hv : v = 0 <;> simp [rc, tD, tF, List.find?, hv]

/-- A quantity in a block that may be written. -/
def QF (w : World) (b : Nat) (t : Int) (s : ByteArray) : Prop := (w.cell? ⟨b, 0, none⟩ = some (.int .i64 t) ∧ w.frozen? ⟨b, 0, none⟩ = false) ∧ (w.cell? ⟨b, 1, none⟩ = some (.string s) ∧ w.frozen? ⟨b, 1, none⟩ = false)
theorem QF.step {w w1 : World} {b : Nat} {t : Int} {s : ByteArray} (h : QF w b t s) (hb : Below w.heap.size w w1) : QF w1 b t s :=
  two_old2 hb (World.block_lt_of_cell? w _ h.1.1) h.1.1 h.2.1 h.1.2 h.2.2
theorem QF.new (w : World) (t : Int) (s : ByteArray) (T : TypeId) (n : Nat) (hn : n = w.heap.size) : QF (w.alloc (.cells #[.int .i64 t, .string s] T)) n t s := by
  subst hn; exact ⟨⟨cell_new' _ _ _ _ rfl 0, frozen_new _ _ _ _⟩, ⟨cell_new' _ _ _ _ rfl 1, frozen_new _ _ _ _⟩⟩
/-- The list of units lies in a block. -/
def LAt (w : World) (g : Nat) : Prop := ∀ i, i < 11 → w.cell? ⟨g, i, none⟩ = some (.string (tN (rk i)))
/-- What holds at the head of a round. -/
def RC (w : World) (g : Nat) (v : Int) (j : Nat) (wr : World) : Prop :=
  Below w.heap.size w wr ∧ QF wr w.heap.size 0 ⟨#[]⟩ ∧ QF wr (w.heap.size + 1) (v.tdiv (tF j)) (tN j) ∧ LAt wr g ∧ w.heap.size + 1 < g ∧ g < wr.heap.size
/-- What 'All' gives, with its block. -/
def ListPost2 (w : World) (e : Ending) (w' : World) : Prop := ∃ g, Hid (g = w.heap.size) ∧ e = .returned (.slice (some ⟨g, 0, none⟩) 11 11) ∧ Hid (LAt w' g) ∧ g < w'.heap.size ∧ Below w.heap.size w w'
theorem all_list2 (w : World) : Calls Tryd.prog 27 #[] w (ListPost2 w) :=
  (all_any w).mono fun e w' ⟨h, h'⟩ => ⟨w.heap.size, rfl, h, by subst h'; exact fun i hi => list_cell w _ (Below.refl _ _) i hi, by subst h'; simp, h' ▸ (Below.refl _ _).alloc (Nat.le_refl _) _⟩
theorem rc_start (w : World) (g : Nat) (v : Int) (u : World) (hb : Below ((w.alloc (.cells #[.int .i64 0, .string ⟨#[]⟩] 23)).alloc (.cells #[.int .i64 0, .string ⟨#[]⟩] 23)).heap.size ((w.alloc (.cells #[.int .i64 0, .string ⟨#[]⟩] 23)).alloc (.cells #[.int .i64 0, .string ⟨#[]⟩] 23)) u) (hl : LAt u g) (hg : w.heap.size + 1 < g) (hg2 : g < u.heap.size) : RC w g v 11 u := by
  refine ⟨bl2 hb, ?_, ?_, hl, hg, hg2⟩
  · exact ((QF.new w 0 ⟨#[]⟩ 23 _ rfl).step ((Below.refl _ _).alloc (Nat.le_refl _) _)).step hb
  · have h0 : v.tdiv (tF 11) = 0 := by show v.tdiv 0 = 0; simp
    rw [h0]
    exact (QF.new (w.alloc (.cells #[.int .i64 0, .string ⟨#[]⟩] 23)) 0 ⟨#[]⟩ 23 (w.heap.size + 1) (by simp)).step hb
theorem RC.drew {w wr : World} {g : Nat} {v : Int} {j : Nat} (h : RC w g v j wr) : RC w g v j wr.drew :=
  ⟨h.1.trans (below_drew _ _), h.2.1, h.2.2.1, h.2.2.2.1, h.2.2.2.2⟩
theorem RC.store {w wr : World} {g : Nat} {v : Int} {j : Nat} (h : RC w g v j wr) (k : Nat) :
    RC w g v k ((wr.setCell ⟨w.heap.size + 1, 0, none⟩ (.int .i64 (v.tdiv (tF k)))).setCell ⟨w.heap.size + 1, 1, none⟩ (.string (tN k))) := by
  obtain ⟨hb, h0, h1, hl, hg, hg2⟩ := h
  have far : ∀ (n i : Nat), n ≠ w.heap.size + 1 → ((wr.setCell ⟨w.heap.size + 1, 0, none⟩ (.int .i64 (v.tdiv (tF k)))).setCell ⟨w.heap.size + 1, 1, none⟩ (.string (tN k))).cell? ⟨n, i, none⟩ = wr.cell? ⟨n, i, none⟩ := fun n i hn => by
    rw [World.cell?_setCell_far _ _ _ _ (Ne.symm hn), World.cell?_setCell_far _ _ _ _ (Ne.symm hn)]
  have near : ∀ i, i ≠ 0 → (wr.setCell ⟨w.heap.size + 1, 0, none⟩ (.int .i64 (v.tdiv (tF k)))).cell? ⟨w.heap.size + 1, i, none⟩ = wr.cell? ⟨w.heap.size + 1, i, none⟩ := fun i hi =>
    World.cell?_setCell_other _ _ _ _ (by intro e; injection e with e1 e2; exact hi e2.symm)
  refine ⟨(hb.setCell (by simp) _).setCell (by simp) _, ⟨⟨?_, ?_⟩, ⟨?_, ?_⟩⟩, ⟨⟨?_, ?_⟩, ⟨?_, ?_⟩⟩, fun i hi => (far g i (by omega)).trans (hl i hi), hg, by simpa [World.setCell] using hg2⟩
  · exact (far _ _ (by omega)).trans h0.1.1
  · rw [World.frozen?_setCell, World.frozen?_setCell]; exact h0.1.2
  · exact (far _ _ (by omega)).trans h0.2.1
  · rw [World.frozen?_setCell, World.frozen?_setCell]; exact h0.2.2
  · rw [World.cell?_setCell_other _ _ _ _ (by intro e; injection e with e1 e2; cases e2)]; exact World.cell?_setCell_same _ _ _ h1.1.1
  · rw [World.frozen?_setCell, World.frozen?_setCell]; exact h1.1.2
  · exact World.cell?_setCell_same _ _ _ ((near 1 (by omega)).trans h1.2.1)
  · rw [World.frozen?_setCell, World.frozen?_setCell]; exact h1.2.2
theorem RC.lay {w wr : World} {g : Nat} {v : Int} {j : Nat} (h : RC w g v j wr) :
    ((wr.cell? ⟨w.heap.size, 0, none⟩ = some (.int .i64 0) ∧ wr.frozen? ⟨w.heap.size, 0, none⟩ = false) ∧ (wr.cell? ⟨w.heap.size, 1, none⟩ = some (.string ⟨#[]⟩) ∧ wr.frozen? ⟨w.heap.size, 1, none⟩ = false)) ∧
    ((wr.cell? ⟨w.heap.size + 1, 0, none⟩ = some (.int .i64 (v.tdiv (tF j))) ∧ wr.frozen? ⟨w.heap.size + 1, 0, none⟩ = false) ∧ (wr.cell? ⟨w.heap.size + 1, 1, none⟩ = some (.string (tN j)) ∧ wr.frozen? ⟨w.heap.size + 1, 1, none⟩ = false)) := ⟨h.2.1, h.2.2.1⟩

set_option maxRecDepth 100000 in
set_option maxHeartbeats 4000000 in
theorem rcanon_arg (d v : Int) (w : World) (h : ¬ (1 ≤ d ∧ d ≤ 7)) :
    Calls Tryd.prog 19 #[.int .i64 d, .int .i64 v] w fun e w' => e = .returned (.tuple #[.agg #[.int .i64 0, .string ⟨#[]⟩], .int .i64 1]) ∧ Below w.heap.size w w' := by
  by_cases h1 : d < 1
  · have q1 : decide (d < 1) = true := by simpa using h1
    clear h h1
    go_enter Tryd.func19, Tryd.ntmps19
    go_wp2
    exact bodyPost_ret (v := .tuple #[.agg #[.int .i64 0, .string ⟨#[]⟩], .int .i64 1]) (by simp [results, Tryd.results19, go_sem]) rfl ⟨rfl, (Below.refl _ _).alloc (Nat.le_refl _) _⟩
  · have q1 : decide (d < 1) = false := by simpa using h1
    have q2 : decide (7 < d) = true := by simp; omega
    clear h h1
    go_enter Tryd.func19, Tryd.ntmps19
    go_wp2
    exact bodyPost_ret (v := .tuple #[.agg #[.int .i64 0, .string ⟨#[]⟩], .int .i64 1]) (by simp [results, Tryd.results19, go_sem]) rfl ⟨rfl, (Below.refl _ _).alloc (Nat.le_refl _) _⟩
set_option maxRecDepth 100000 in
set_option maxHeartbeats 4000000 in
theorem rcanon_far (d v : Int) (w : World) (h1 : 1 ≤ d) (h2 : d ≤ 7) (HA : Hid (inB v (-1000000000000000) 1000000000000000 = false)) :
    Calls Tryd.prog 19 #[.int .i64 d, .int .i64 v] w fun e w' => e = .returned (.tuple #[.agg #[.int .i64 0, .string ⟨#[]⟩], .int .i64 11]) ∧ Below w.heap.size w w' := by
  have q1 : decide (d < 1) = false := by simp; omega
  have q2 : decide (7 < d) = false := by simp; omega
  clear h1 h2
  go_enter Tryd.func19, Tryd.ntmps19
  go_wp2_with (go_at_call 31; go_must (refine (rwithin_any v 1000000000000000 _ (by omega) (by omega)).mono ?_); rintro e w1 ⟨rfl, rfl⟩; rw [HA.out])
  exact bodyPost_ret (v := .tuple #[.agg #[.int .i64 0, .string ⟨#[]⟩], .int .i64 11]) (by simp [results, Tryd.results19, go_sem]) rfl ⟨rfl, (Below.refl _ _).alloc (Nat.le_refl _) _⟩
theorem rc_cases (d v : Int) (k : Nat) (_hk : k < 11) :
    (rc d v k = false ∧ (tD k == d) = false) ∨ (rc d v k = true ∧ (tD k == d) = true ∧ (tF k == 1) = true) ∨
    (rc d v k = false ∧ (tD k == d) = true ∧ (tF k == 1) = false ∧ (v != 0) = false) ∨
    (rc d v k = false ∧ (tD k == d) = true ∧ (tF k == 1) = false ∧ (v != 0) = true ∧ (v.tmod (tF k) == 0) = false) ∨
    (rc d v k = true ∧ (tD k == d) = true ∧ (tF k == 1) = false ∧ (v != 0) = true ∧ (v.tmod (tF k) == 0) = true) := by
  unfold rc
  cases tD k == d <;> cases tF k == 1 <;> cases v != 0 <;> cases v.tmod (tF k) == 0 <;> simp
set_option maxRecDepth 100000 in
set_option maxHeartbeats 8000000 in
theorem rcanon_in (d v : Int) (w : World) (h1 : 1 ≤ d) (h2 : d ≤ 7) (hi : I64 v) (HA : Hid (inB v (-1000000000000000) 1000000000000000 = true)) :
    Calls Tryd.prog 19 #[.int .i64 d, .int .i64 v] w fun e w' => e = .returned (.tuple #[.agg #[.int .i64 (nT d v), .string (nS d v)], .int .i64 (nE d v)]) ∧ Below w.heap.size w w' := by
  have q1 : decide (d < 1) = false := by simp; omega
  have q2 : decide (7 < d) = false := by simp; omega
  have HD := Lib.hid (And.intro h1 h2)
  have HI := Lib.hid hi
  clear h1 h2 hi
  go_enter Tryd.func19, Tryd.ntmps19
  go_wp2_with (go_at_call 31; go_must (refine (rwithin_any v 1000000000000000 _ (by omega) (by omega)).mono ?_); rintro e w1 ⟨rfl, rfl⟩; rw [HA.out])
  refine (all_list2 _).mono ?_
  rintro e u1 ⟨g, hg, rfl, HL, hgl, b1⟩
  have HR := Lib.hid (show RC w g v 11 u1 from rc_start w g v u1 b1 HL.out (by have := hg.out; simp at this; omega) hgl)
  clear hg HL hgl
  clear b1
  go_wp2_with fail
  go_loopw [8] (fun i wr => ∃ k : Nat, k ≤ 11 ∧ i = .int .i64 k ∧ Hid (RC w g v (ro d v k) wr)) (fun i _ => 11 - (intOf i).toNat)
  case atStart => exact ⟨0, by omega, rfl, HR⟩
  case round =>
    obtain ⟨k, hk, rfl, HK⟩ := hrel
    by_cases hlt : k < 11
    · have hcell := HK.out.2.2.2.1 k hlt
      have hu := Lib.hid (ux_tN (rk k) (rk_lt k))
      have hF := tF_pos (rk k) (rk_lt k)
      obtain ⟨hF1, hF2⟩ := hF
      have hla := HK.out.lay
      obtain ⟨-, ⟨⟨c0, f0⟩, ⟨c1, f1⟩⟩⟩ := hla
      have hn := rc_cases d v (rk k) (rk_lt k)
      have hq := tdiv_wrap v (tF (rk k)) hF1 HI.out.1 HI.out.2
      have hkn : (k : Int) < 11 := by omega
      rcases hn with ⟨p1, p2⟩ | ⟨p1, p2, p3⟩ | ⟨p1, p2, p3, p4⟩ | ⟨p1, p2, p3, p4, p5⟩ | ⟨p1, p2, p3, p4, p5⟩
      · have HN := Lib.hid (show RC w g v (ro d v (k + 1)) wr by rw [ro, p1]; exact HK.out)
        clear p1
        go_wp2_with (go_at_call 26; go_must (refine (unit26_any (tN (rk k)) _).mono ?_); rintro e w' ⟨rfl, rfl⟩; rw [hu.out])
        go_roundw
        case rel => exact ⟨k + 1, by omega, by go_num, HN⟩
        case measure => simp [intOf]; omega
      · have HN := Lib.hid (show ∀ wq, RC w g v (rk k) wq → RC w g v (ro d v (k + 1)) wq by rw [ro, p1]; exact fun _ h => h)
        clear p1
        go_wp2_with (go_at_call 26; go_must (refine (unit26_any (tN (rk k)) _).mono ?_); rintro e w' ⟨rfl, rfl⟩; rw [hu.out])
        go_region
        go_wp2_with fail
        go_roundw
        case rel => exact ⟨k + 1, by omega, by go_num, HN.out _ ((HK.out.store (rk k)).drew)⟩
        case measure => simp [intOf]; omega
      · have HN := Lib.hid (show RC w g v (ro d v (k + 1)) wr by rw [ro, p1]; exact HK.out)
        clear p1
        go_wp2_with (go_at_call 26; go_must (refine (unit26_any (tN (rk k)) _).mono ?_); rintro e w' ⟨rfl, rfl⟩; rw [hu.out])
        go_roundw
        case rel => exact ⟨k + 1, by omega, by go_num, HN⟩
        case measure => simp [intOf]; omega
      · have HN := Lib.hid (show RC w g v (ro d v (k + 1)) wr by rw [ro, p1]; exact HK.out)
        clear p1
        go_wp2_with (go_at_call 26; go_must (refine (unit26_any (tN (rk k)) _).mono ?_); rintro e w' ⟨rfl, rfl⟩; rw [hu.out])
        go_roundw
        case rel => exact ⟨k + 1, by omega, by go_num, HN⟩
        case measure => simp [intOf]; omega
      · have HN := Lib.hid (show ∀ wq, RC w g v (rk k) wq → RC w g v (ro d v (k + 1)) wq by rw [ro, p1]; exact fun _ h => h)
        clear p1
        go_wp2_with (go_at_call 26; go_must (refine (unit26_any (tN (rk k)) _).mono ?_); rintro e w' ⟨rfl, rfl⟩; rw [hu.out])
        go_region
        go_wp2_with fail
        go_roundw
        case rel => exact ⟨k + 1, by omega, by go_num, HN.out _ ((HK.out.store (rk k)).drew)⟩
        case measure => simp [intOf]; omega
    · have hk11 : k = 11 := by omega
      have hro := Lib.hid (show ro d v k = cK d v by rw [hk11]; exact ro_all d v HD.out.1 HD.out.2)
      have hbx := (bx_lt_iff d).2 HD.out
      have hla := HK.out.lay
      rw [hro.out] at hla
      obtain ⟨⟨⟨x0, g0⟩, ⟨x1, g1⟩⟩, ⟨⟨c0, f0⟩, ⟨c1, f1⟩⟩⟩ := hla
      have HBel := Lib.hid HK.out.1
      have hzz : w.heap.size + 1 < wr.heap.size := World.block_lt_of_cell? wr _ c0
      clear hk11
      cases hB : inB (v.tdiv (tF (cK d v))) (-1000000000) 1000000000
      · have HR2 := Lib.hid (show nE d v = 11 ∧ nT d v = 0 ∧ nS d v = ⟨#[]⟩ by
          have hE : nE d v = 11 := by unfold nE cT; rw [if_pos hbx, HA.out, hB]; rfl
          exact ⟨hE, (nT_no (by rw [hE]; decide)).1, (nT_no (by rw [hE]; decide)).2⟩)
        have HB2 := Lib.hid hB
        clear hB hbx
        go_wp2_with (go_at_call 31; go_must (refine (rwithin_any (v.tdiv (tF (cK d v))) 1000000000 _ (by omega) (by omega)).mono ?_); rintro e w1 ⟨rfl, rfl⟩; rw [HB2.out])
        refine bodyPost_ret (v := .tuple #[.agg #[.int .i64 0, .string ⟨#[]⟩], .int .i64 11]) (by simp [results, Tryd.results19, go_sem, x0, x1]) rfl ⟨?_, (HBel.out.setCell (by simp) _).setCell (by simp) _⟩
        rw [HR2.out.1, HR2.out.2.1, HR2.out.2.2]
      · have HR2 := Lib.hid (show nE d v = 0 ∧ nT d v = v.tdiv (tF (cK d v)) ∧ nS d v = tN (cK d v) by
          have hE : nE d v = 0 := by unfold nE cT; rw [if_pos hbx, HA.out, hB]; rfl
          exact ⟨hE, by unfold nT cT; rw [if_pos hE], by unfold nS; rw [if_pos hE]⟩)
        have HB2 := Lib.hid hB
        clear hB hbx
        go_wp2_with (go_at_call 31; go_must (refine (rwithin_any (v.tdiv (tF (cK d v))) 1000000000 _ (by omega) (by omega)).mono ?_); rintro e w1 ⟨rfl, rfl⟩; rw [HB2.out])
        refine bodyPost_ret (v := .tuple #[.agg #[.int .i64 (v.tdiv (tF (cK d v))), .string (tN (cK d v))], .int .i64 0]) (by simp [results, Tryd.results19, go_sem, x0, x1]) rfl ⟨?_, (HBel.out.setCell (by simp) _).setCell (by simp) _⟩
        rw [HR2.out.1, HR2.out.2.1, HR2.out.2.2]
theorem rcanon_any (d v : Int) (w : World) (hi : I64 v) :
    Calls Tryd.prog 19 #[.int .i64 d, .int .i64 v] w fun e w' => e = .returned (.tuple #[.agg #[.int .i64 (nT d v), .string (nS d v)], .int .i64 (nE d v)]) ∧ Below w.heap.size w w' := by
  by_cases h : 1 ≤ d ∧ d ≤ 7
  · cases hA : inB v (-1000000000000000) 1000000000000000
    · have hE : nE d v = 11 := by unfold nE; rw [if_pos ((bx_lt_iff d).2 h), hA]; rfl
      have hn := nT_no (d := d) (v := v) (by rw [hE]; decide)
      rw [hE, hn.1, hn.2]
      exact rcanon_far d v w h.1 h.2 (Lib.hid hA)
    · exact rcanon_in d v w h.1 h.2 hi (Lib.hid hA)
  · have hE : nE d v = 1 := by unfold nE; rw [if_neg (fun hb => h ((bx_lt_iff d).1 hb))]
    have hn := nT_no (d := d) (v := v) (by rw [hE]; decide)
    rw [hE, hn.1, hn.2]
    exact rcanon_arg d v w h
end Go.Proofs.YtbmmmhjgidffpaaDoor
