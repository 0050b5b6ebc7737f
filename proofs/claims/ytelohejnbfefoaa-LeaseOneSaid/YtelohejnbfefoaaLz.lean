/- Laws LeaseFences and LeaseOne: the walks. -/
import Derived.Test.YtelohejnbfefoaaLq
import Derived.Deep.RegionHeld3
namespace Go.Proofs.Ytelohejnbfefoaa
open Go.RowKit

theorem go_get {l : List Go1} {k : Nat} (h : k < l.length) : l[k]? = some (l.getD k zG) := by simp [h]
theorem play2 (v : Value) (T : List Tr) (w : World) (hl : TrsAt w v T) (hx : ∀ x ∈ T, x.ok) (h60 : T.length ≤ 60) : Calls Try.prog 19 #[.int .i64 2, v] w (PlayPost 2 T.length w) := play_any 2 v T w (.inl rfl) hl hx h60
theorem play3 (v : Value) (T : List Tr) (w : World) (hl : TrsAt w v T) (hx : ∀ x ∈ T, x.ok) (h60 : T.length ≤ 60) : Calls Try.prog 19 #[.int .i64 3, v] w (PlayPost 3 T.length w) := play_any 3 v T w (.inr rfl) hl hx h60
set_option maxRecDepth 100000 in
set_option maxHeartbeats 4000000 in
theorem fences_out (t : Bool) (v : Value) (T : List Tr) (w : World) (hl : TrsAt w v T) (h60 : 60 < T.length) : Calls Try.prog 5 #[.bool t, v] w fun e w' => e = .returned (.bool true) ∧ Below w.heap.size w w' := by
  obtain ⟨a, cap, rfl, hm, -⟩ := hl
  unfold maxLen at hm
  go_enter Try.func5, Try.ntmps5
  go_wp2_with fail
  refine (head_any _).mono ?_
  rintro e w1 ⟨rfl, b1⟩
  have B1 := Lib.hid b1
  clear b1
  go_wp2
  go_ret
  exact ⟨rfl, B1.out⟩
set_option maxRecDepth 100000 in
set_option maxHeartbeats 8000000 in
theorem fences_2 (v : Value) (T : List Tr) (w : World) (hl : TrsAt w v T) (hx : ∀ x ∈ T, x.ok) (h60 : T.length ≤ 60) : Calls Try.prog 5 #[.bool false, v] w fun e w' => e = .returned (.bool true) ∧ Below w.heap.size w w' := by
  have HL := Lib.hid hl
  have HX := Lib.hid hx
  clear hx
  obtain ⟨a, cap, rfl, -, -⟩ := hl
  go_enter Try.func5, Try.ntmps5
  go_wp2_with fail
  refine (head_any _).mono ?_
  rintro e w1 ⟨rfl, b1⟩
  have B1 := Lib.hid b1
  clear b1
  go_wp2_with fail
  refine (play2 _ T w1 (HL.out.step B1.out) HX.out h60).mono ?_
  rintro e w2 ⟨lv, gv, L, G, now, rfl, hL, hG, hI, hGn, b2⟩
  have HB2 := Lib.hid (keep2 b2 B1.out)
  have HG := Lib.hid hG
  have HI := Lib.hid hI
  have HLv := Lib.hid hL
  have hG60 : G.length ≤ 60 := by omega
  clear hL hI b2 hGn
  obtain ⟨ga, gc, rfl, -, -⟩ := hG
  go_wp2_with fail
  go_loopw [11] (fun i wr => ∃ k : Nat, k ≤ G.length ∧ i = .int .i64 k ∧ Hid (Below w2.heap.size w2 wr)) (fun i _ => G.length - (intOf i).toNat)
  case atStart => exact ⟨0, by omega, rfl, Below.refl _ _⟩
  case round =>
    obtain ⟨k, hk, rfl, HB⟩ := hrel
    by_cases hlt : k < G.length
    · have hsz := HB.out.size
      obtain ⟨a2, cap2, hva, -, hcs⟩ := HG.out.step HB.out
      obtain ⟨rfl, rfl⟩ : ga = a2 ∧ gc = cap2 := by simpa using hva
      obtain ⟨b, off, rfl, hcs2⟩ := hcs (by intro h; rw [h] at hlt; simp at hlt)
      obtain ⟨x0, x1, x2, x3⟩ := hcs2 k _ (go_get hlt)
      obtain ⟨⟨q1, q2⟩, q3, q4⟩ := HI.out.ok k hlt
      have hb := World.block_lt_of_cell? _ _ x0
      have hb : b < wr.heap.size := hb
      cases k with
      | zero =>
        generalize G.getD 0 zG = g at *
        obtain ⟨gh, gf, gu, gt⟩ := g
        simp only at x0 x1 x2 x3 q1 q2 q3 q4
        rw [Nat.zero_mul, Nat.add_zero] at x0 x1 x2 x3
        rw [show ((0 : Nat) : Int) = 0 from rfl]
        have d1 : decide (gh < 0) = false := by simp; omega
        have d2 : decide (2 ≤ gh) = false := by simp; omega
        have d3 : decide (gu ≤ gt) = false := by simp; omega
        have d4 : decide (gf < 1) = false := by simp; omega
        have hlt0 : 0 < G.length := hlt
        clear q1 q2 q3 q4 hcs hcs2 hva
        have HB3 := Lib.hid (HB.out.alloc hsz (.cells #[.int .i64 gh, .int .i64 gf, .int .i64 gu] 27))
        go_wp2_with fail
        go_quiet (fail)
        go_wp2
        go_roundw
        case rel => exact ⟨1, hlt, by go_num, Lib.hid (HB3.out.trans (below_drewN' _ _ _))⟩
        case measure => simp [intOf]; omega
      | succ m =>
        obtain ⟨y0, y1, y2, y3⟩ := hcs2 m _ (go_get (show m < G.length by omega))
        have q5 := (HI.out.pair m (m + 1) (by omega) hlt).1
        generalize G.getD (m + 1) zG = g at *
        generalize G.getD m zG = g' at *
        obtain ⟨gh, gf, gu, gt⟩ := g
        obtain ⟨gh', gf', gu', gt'⟩ := g'
        simp only at x0 x1 x2 x3 q1 q2 q3 q4 q5 y0 y1 y2 y3
        have d1 : decide (gh < 0) = false := by simp; omega
        have d2 : decide (2 ≤ gh) = false := by simp; omega
        have d3 : decide (gu ≤ gt) = false := by simp; omega
        have d4 : decide (gf < 1) = false := by simp; omega
        have d5 : decide (gf ≤ gf') = false := by simp; omega
        have hm7 : m < G.length := by omega
        have hm8 : (0 : Int) ≤ m := by omega
        have hm9 : (0 : Int) < (m : Int) + 1 := by omega
        clear q1 q2 q3 q4 q5 hcs hcs2 hva
        have HB3 := Lib.hid (HB.out.alloc hsz (.cells #[.int .i64 gh, .int .i64 gf, .int .i64 gu] 27))
        go_wp2_with fail
        have w1q : IntKind.i64.wrap (m : Int) = m := IntWalk.i64_in _ (by omega)
        have w2q : IntKind.i64.wrap ((m : Int) + 1 - 1) = m := by rw [show (m : Int) + 1 - 1 = m by omega]; exact w1q
        go_quiet (fail)
        go_wp2
        go_roundw
        case rel => exact ⟨m + 1 + 1, hlt, by go_num, Lib.hid (HB3.out.trans (below_drewN' _ _ _))⟩
        case measure => simp [intOf]; omega
    · go_wp2
      go_ret
      exact ⟨rfl, keep2 HB.out HB2.out⟩
set_option maxRecDepth 100000 in
set_option maxHeartbeats 8000000 in
theorem fences_3 (v : Value) (T : List Tr) (w : World) (hl : TrsAt w v T) (hx : ∀ x ∈ T, x.ok) (h60 : T.length ≤ 60) : Calls Try.prog 5 #[.bool true, v] w fun e w' => e = .returned (.bool true) ∧ Below w.heap.size w w' := by
  have HL := Lib.hid hl
  have HX := Lib.hid hx
  clear hx
  obtain ⟨a, cap, rfl, -, -⟩ := hl
  go_enter Try.func5, Try.ntmps5
  go_wp2_with fail
  refine (head_any _).mono ?_
  rintro e w1 ⟨rfl, b1⟩
  have B1 := Lib.hid b1
  clear b1
  go_wp2_with fail
  refine (play3 _ T w1 (HL.out.step B1.out) HX.out h60).mono ?_
  rintro e w2 ⟨lv, gv, L, G, now, rfl, hL, hG, hI, hGn, b2⟩
  have HB2 := Lib.hid (keep2 b2 B1.out)
  have HG := Lib.hid hG
  have HI := Lib.hid hI
  have HLv := Lib.hid hL
  have hG60 : G.length ≤ 60 := by omega
  clear hL hI b2 hGn
  obtain ⟨ga, gc, rfl, -, -⟩ := hG
  go_wp2_with fail
  go_loopw [11] (fun i wr => ∃ k : Nat, k ≤ G.length ∧ i = .int .i64 k ∧ Hid (Below w2.heap.size w2 wr)) (fun i _ => G.length - (intOf i).toNat)
  case atStart => exact ⟨0, by omega, rfl, Below.refl _ _⟩
  case round =>
    obtain ⟨k, hk, rfl, HB⟩ := hrel
    by_cases hlt : k < G.length
    · have hsz := HB.out.size
      obtain ⟨a2, cap2, hva, -, hcs⟩ := HG.out.step HB.out
      obtain ⟨rfl, rfl⟩ : ga = a2 ∧ gc = cap2 := by simpa using hva
      obtain ⟨b, off, rfl, hcs2⟩ := hcs (by intro h; rw [h] at hlt; simp at hlt)
      obtain ⟨x0, x1, x2, x3⟩ := hcs2 k _ (go_get hlt)
      obtain ⟨⟨q1, q2⟩, q3, q4⟩ := HI.out.ok k hlt
      have hb := World.block_lt_of_cell? _ _ x0
      have hb : b < wr.heap.size := hb
      cases k with
      | zero =>
        generalize G.getD 0 zG = g at *
        obtain ⟨gh, gf, gu, gt⟩ := g
        simp only at x0 x1 x2 x3 q1 q2 q3 q4
        rw [Nat.zero_mul, Nat.add_zero] at x0 x1 x2 x3
        rw [show ((0 : Nat) : Int) = 0 from rfl]
        have d1 : decide (gh < 0) = false := by simp; omega
        have d2 : decide (3 ≤ gh) = false := by simp; omega
        have d3 : decide (gu ≤ gt) = false := by simp; omega
        have d4 : decide (gf < 1) = false := by simp; omega
        have hlt0 : 0 < G.length := hlt
        clear q1 q2 q3 q4 hcs hcs2 hva
        have HB3 := Lib.hid (HB.out.alloc hsz (.cells #[.int .i64 gh, .int .i64 gf, .int .i64 gu] 27))
        go_wp2_with fail
        go_quiet (fail)
        go_wp2
        go_roundw
        case rel => exact ⟨1, hlt, by go_num, Lib.hid (HB3.out.trans (below_drewN' _ _ _))⟩
        case measure => simp [intOf]; omega
      | succ m =>
        obtain ⟨y0, y1, y2, y3⟩ := hcs2 m _ (go_get (show m < G.length by omega))
        have q5 := (HI.out.pair m (m + 1) (by omega) hlt).1
        generalize G.getD (m + 1) zG = g at *
        generalize G.getD m zG = g' at *
        obtain ⟨gh, gf, gu, gt⟩ := g
        obtain ⟨gh', gf', gu', gt'⟩ := g'
        simp only at x0 x1 x2 x3 q1 q2 q3 q4 q5 y0 y1 y2 y3
        have d1 : decide (gh < 0) = false := by simp; omega
        have d2 : decide (3 ≤ gh) = false := by simp; omega
        have d3 : decide (gu ≤ gt) = false := by simp; omega
        have d4 : decide (gf < 1) = false := by simp; omega
        have d5 : decide (gf ≤ gf') = false := by simp; omega
        have hm7 : m < G.length := by omega
        have hm8 : (0 : Int) ≤ m := by omega
        have hm9 : (0 : Int) < (m : Int) + 1 := by omega
        clear q1 q2 q3 q4 q5 hcs hcs2 hva
        have HB3 := Lib.hid (HB.out.alloc hsz (.cells #[.int .i64 gh, .int .i64 gf, .int .i64 gu] 27))
        go_wp2_with fail
        have w1q : IntKind.i64.wrap (m : Int) = m := IntWalk.i64_in _ (by omega)
        have w2q : IntKind.i64.wrap ((m : Int) + 1 - 1) = m := by rw [show (m : Int) + 1 - 1 = m by omega]; exact w1q
        go_quiet (fail)
        go_wp2
        go_roundw
        case rel => exact ⟨m + 1 + 1, hlt, by go_num, Lib.hid (HB3.out.trans (below_drewN' _ _ _))⟩
        case measure => simp [intOf]; omega
    · go_wp2
      go_ret
      exact ⟨rfl, keep2 HB.out HB2.out⟩
theorem fences_any (t : Bool) (v : Value) (T : List Tr) (w : World) (hl : TrsAt w v T) (hx : ∀ x ∈ T, x.ok) : Calls Try.prog 5 #[.bool t, v] w fun e w' => e = .returned (.bool true) ∧ Below w.heap.size w w' := by
  by_cases h60 : T.length ≤ 60
  · cases t
    · exact fences_2 v T w hl hx h60
    · exact fences_3 v T w hl hx h60
  · exact fences_out t v T w hl (by omega)
end Go.Proofs.Ytelohejnbfefoaa
