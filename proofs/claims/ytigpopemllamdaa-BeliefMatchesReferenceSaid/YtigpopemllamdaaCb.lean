/- Beliefs: the reference's small functions; its 'Find' and 'values'. -/
import Derived.Test.YtigpopemllamdaaCa
import Derived.Deep.CutRange
namespace Go.Proofs.Ytigpopemllamdaa
open Go.RowKit

set_option maxRecDepth 100000 in
set_option maxHeartbeats 8000000 in
theorem settledR_any (x : Od) (w : World) : Calls Try.prog 41 #[.agg #[.int .i64 x.a, .int .i64 x.b, .int .i64 x.c, .int .i64 x.d]] w fun e w' => e = .returned (.bool (stB x)) ∧ Below w.heap.size w w' := by
  have HB := Lib.hid (al w (.cells #[.int .i64 x.a, .int .i64 x.b, .int .i64 x.c, .int .i64 x.d] 27))
  go_enter Try.func41, Try.ntmps41
  go_wp2
  go_ret
  exact ⟨by first | rfl | simp [stB], HB.out⟩
set_option maxRecDepth 100000 in
set_option maxHeartbeats 8000000 in
theorem between_any (lo n hi : Int) (w : World) : Calls Try.prog 40 #[.int .i64 lo, .int .i64 n, .int .i64 hi] w fun e w' => e = .returned (.bool (inr n lo hi)) ∧ Below w.heap.size w w' := by
  unfold inr
  by_cases h1 : lo ≤ n
  · go_enter Try.func40, Try.ntmps40
    go_wp2
    go_ret
    exact ⟨by rw [decide_eq_true h1]; rfl, by first | exact Below.refl _ _ | exact below_drew _ _⟩
  · go_enter Try.func40, Try.ntmps40
    go_wp2
    go_ret
    exact ⟨by rw [decide_eq_false (show ¬ lo ≤ n by omega)]; rfl, by first | exact Below.refl _ _ | exact below_drew _ _⟩
theorem fsP_hit {p : Od → Bool} {L : List Od} {k : Nat} (hk : k < L.length) (h : p (L.getD k zO) = true) (hn : ∀ j, j < k → p (L.getD j zO) = false) : fsP p L = k := by
  unfold fsP
  rw [(fsI_some (p := p) (L := L) (k := 0) (i := k)).2 ⟨by omega, by simpa using hk, by simpa using h, by simpa using hn⟩]
theorem fsP_miss {p : Od → Bool} {L : List Od} (hn : ∀ j, j < L.length → p (L.getD j zO) = false) : fsP p L = -1 := by
  unfold fsP
  rw [fsI_none.2 hn]
set_option maxRecDepth 100000 in
set_option maxHeartbeats 8000000 in
theorem find_any (u : Value) (sa : Option Addr) (sc : Nat) (L : List Od) (q : Int) (w : World) (h : OdsAt w (.slice sa L.length sc) L) (h9 : L.length ≤ maxLen) :
    Calls Try.prog 35 #[.agg #[u, .slice sa L.length sc], .int .i64 q] w fun e w' => e = .returned (.int .i64 (fsP (cfP q) L)) ∧ Below w.heap.size w w' := by
  have HL := Lib.hid h
  have HC := Lib.hid (Cs.new w w.heap.size #[u, .slice sa L.length sc] 25 rfl)
  have HB := Lib.hid (al w (.cells #[u, .slice sa L.length sc] 25))
  have hm := h9
  unfold maxLen at hm
  clear h h9
  go_enter Try.func35, Try.ntmps35
  go_wp2_with fail
  go_loopw [5] (fun iv wr => ∃ k : Nat, k ≤ L.length ∧ iv = .int .i64 k ∧ Hid (∀ j, j < k → cfP q (L.getD j zO) = false) ∧ Hid (Cs wr w.heap.size #[u, .slice sa L.length sc]) ∧ Hid (Below w.heap.size w wr)) (fun iv _ => L.length - (intOf iv).toNat)
  case atStart => exact ⟨0, by omega, rfl, Lib.hid (fun j h => absurd h (by omega)), HC, HB⟩
  case round =>
    obtain ⟨k, hk, rfl, HN, HC1, HW⟩ := hrel
    have c0 := HC1.out.c 0 rfl
    have c1 := HC1.out.c 1 rfl
    have cz := HC1.out.2.2
    by_cases hlt : k < L.length
    · obtain ⟨a1, cc1, hv1, -, -, hcs1⟩ := HL.out.step HW.out
      obtain ⟨rfl, rfl⟩ : sa = a1 ∧ sc = cc1 := by simpa using hv1
      obtain ⟨b1, o1, rfl, hx1⟩ := hcs1 (by intro e; rw [e] at hlt; simp at hlt)
      obtain ⟨y0, y1, y2, y3⟩ := hx1 k _ (od_get hlt)
      have yz : b1 < wr.heap.size := World.block_lt_of_cell? _ _ y0
      have t1 : (k : Int) < (L.length : Int) := by omega
      have HIT := Lib.hid (fun (h : cfP q (L.getD k zO) = true) => fsP_hit hlt h HN.out)
      have HNX := Lib.hid (show cfP q (L.getD k zO) = false → ∀ j, j < k + 1 → cfP q (L.getD j zO) = false from fun h0 j h => by
        by_cases e : j = k
        · subst e; exact h0
        · exact HN.out j (by omega))
      clear hcs1 hx1 hv1
      generalize L.getD k zO = x at *
      cases hs : stB x
      · go_wp2_with fail
        refine (settledR_any x _).mono ?_
        rintro e w4 ⟨rfl, b⟩
        rw [hs]
        have HC4 := Lib.hid (HC1.out.step b)
        have HW4 := Lib.hid (keep2 b HW.out)
        have y0' := keep1 b y0
        clear c0 c1 cz y0 y1 y2 y3 yz HC1
        have c0 := HC4.out.c 0 rfl
        have c1 := HC4.out.c 1 rfl
        have cz := HC4.out.2.2
        have yz : b1 < w4.heap.size := World.block_lt_of_cell? _ _ y0'
        by_cases hq : x.a = q
        · have HF := Lib.hid (HIT.out (by unfold cfP; rw [hs, decide_eq_true hq]; rfl))
          rw [hq] at y0'
          clear hq
          go_wp2
          go_ret
          exact ⟨by rw [HF.out]; rfl, HW4.out⟩
        · have HF := Lib.hid (HNX.out (by unfold cfP; rw [hs, decide_eq_false hq]; rfl))
          obtain ⟨xa, hxa⟩ : ∃ z, x.a = z := ⟨_, rfl⟩
          rw [hxa] at y0' hq
          have e1 : decide (xa = q) = false := decide_eq_false hq
          have e2 : (xa == q) = false := beq_eq_false_iff_ne.2 hq
          clear hxa
          go_wp2
          go_roundw
          case rel => exact ⟨k + 1, hlt, by go_num, HF, HC4, HW4⟩
          case measure => simp [intOf]; omega
      · have HF := Lib.hid (HNX.out (by unfold cfP; rw [hs]; rfl))
        go_wp2_with fail
        refine (settledR_any x _).mono ?_
        rintro e w4 ⟨rfl, b⟩
        rw [hs]
        have HC4 := Lib.hid (HC1.out.step b)
        have HW4 := Lib.hid (keep2 b HW.out)
        clear c0 c1 cz y0 y1 y2 y3 yz b
        go_wp2
        go_roundw
        case rel => exact ⟨k + 1, hlt, by go_num, HF, HC4, HW4⟩
        case measure => simp [intOf]; omega
    · obtain rfl : k = L.length := by omega
      have HF := Lib.hid (fsP_miss HN.out)
      clear HN
      go_wp2
      go_ret
      exact ⟨by rw [HF.out]; rfl, HW.out⟩
/-- The reference's values below a number. -/
def rvu (L : List Od) (n : Nat) : List Int := ((List.range n).map fun n : Nat => (n : Int)).filter fun v => L.any fun o => decide (o.d = v)
theorem rvu_step (L : List Od) (n : Nat) : rvu L (n + 1) = rvu L n ++ (if (L.any fun o => decide (o.d = (n : Int))) = true then [(n : Int)] else []) := by
  unfold rvu
  rw [List.range_succ, List.map_append, List.filter_append]
  congr 1
  rw [List.map_cons, List.map_nil, List.filter_cons, List.filter_nil]
theorem rvu_len (L : List Od) (n : Nat) : (rvu L n).length ≤ n := by
  unfold rvu
  refine Nat.le_trans (List.length_filter_le _ _) (by simp)
theorem any_step {L : List Od} {p : Od → Bool} {k : Nat} (h : k < L.length) : (L.take (k + 1)).any p = ((L.take k).any p || p (L.getD k zO)) := by
  have e : L.take (k + 1) = L.take k ++ [L.getD k zO] := by rw [List.take_add_one, od_get h]; rfl
  rw [e, List.any_append]; simp
set_option maxRecDepth 100000 in
set_option maxHeartbeats 8000000 in
theorem valuesR_any (v : Value) (L : List Od) (w : World) (h : OdsAt w v L) (h9 : L.length ≤ maxLen) :
    Calls Try.prog 50 #[v] w fun e w' => ∃ u, e = .returned u ∧ IntsAt w' u (rvl L) ∧ Below w.heap.size w w' := by
  have HL := Lib.hid h
  obtain ⟨sa, sc, rfl, -, -, -⟩ := h
  have hm := h9
  unfold maxLen at hm
  clear h9
  obtain ⟨i0, hi, hz0, hz1, hz2⟩ := info_parts in_info
  go_enter Try.func50, Try.ntmps50
  go_wp2_with fail
  go_loopw [3, 4] (fun uv iv wr => ∃ n : Nat, n ≤ 16 ∧ iv = .int .i64 n ∧ Hid (wr.ownsRow w.heap.size 3 1 uv (rvu L n).length ((rvu L n).map (Value.int .i64))) ∧ Hid (Below w.heap.size w wr)) (fun _ iv _ => 16 - (intOf iv).toNat)
  case atStart => exact ⟨0, by omega, rfl, Lib.hid (World.ownsRow_nil w w.heap.size 3 1), Lib.hid (Below.refl _ _)⟩
  case round =>
    obtain ⟨n, hn, rfl, HR, HB⟩ := hrel
    by_cases hlt : n < 16
    · have t1 : (n : Int) < 16 := by omega
      have hsz := HB.out.size
      obtain ⟨W2, hW2⟩ : ∃ z, z = wr := ⟨_, rfl⟩
      subst hW2
      have HST := Lib.hid (rvu_step L n)
      have HNL := Lib.hid (rvu_len L n)
      have HNN := Lib.hid hlt
      generalize rvu L n = R at *
      go_wp2_with fail
      go_loopw [5, 6] (fun bv iv wr => ∃ (k : Nat) (b : Bool), k ≤ L.length ∧ iv = .int .i64 k ∧ bv = .bool b ∧ Hid ((L.take k).any (fun o => decide (o.d = (n : Int))) = b) ∧ Hid (Below W2.heap.size W2 wr)) (fun _ iv _ => L.length - (intOf iv).toNat)
      case atStart => exact ⟨0, false, by omega, rfl, rfl, Lib.hid (by simp), Lib.hid (Below.refl _ _)⟩
      case round =>
        obtain ⟨k, b, hk, rfl, rfl, HA, HW⟩ := hrel
        by_cases hlk : k < L.length
        · obtain ⟨a1, cc1, hv1, -, -, hcs1⟩ := (HL.out.step HB.out).step HW.out
          obtain ⟨rfl, rfl⟩ : sa = a1 ∧ sc = cc1 := by simpa using hv1
          obtain ⟨b1, o1, rfl, hx1⟩ := hcs1 (by intro e; rw [e] at hlk; simp at hlk)
          obtain ⟨y0, y1, y2, y3⟩ := hx1 k _ (od_get hlk)
          have yz : b1 < wr.heap.size := World.block_lt_of_cell? _ _ y0
          have t2 : (k : Int) < (L.length : Int) := by omega
          have HS := Lib.hid (any_step (p := fun o => decide (o.d = (n : Int))) hlk)
          clear hcs1 hx1 hv1 y0 y1 y2
          generalize L.getD k zO = x at *
          cases b
          · by_cases hq : x.d = (n : Int)
            · have HA2 := Lib.hid (show (L.take (k + 1)).any (fun o => decide (o.d = (n : Int))) = true by rw [HS.out, HA.out, decide_eq_true hq]; rfl)
              rw [hq] at y3
              clear hq HA HS
              go_wp2
              go_roundw
              case rel => exact ⟨k + 1, true, hlk, by go_num, rfl, HA2, HW⟩
              case measure => simp [intOf]; omega
            · have HA2 := Lib.hid (show (L.take (k + 1)).any (fun o => decide (o.d = (n : Int))) = false by rw [HS.out, HA.out, decide_eq_false hq]; rfl)
              obtain ⟨xd, hxd⟩ : ∃ z, x.d = z := ⟨_, rfl⟩
              rw [hxd] at y3 hq
              have e1 : decide (xd = (n : Int)) = false := decide_eq_false hq
              have e2 : (xd == (n : Int)) = false := beq_eq_false_iff_ne.2 hq
              clear hxd HA HS
              go_wp2
              go_roundw
              case rel => exact ⟨k + 1, false, hlk, by go_num, rfl, HA2, HW⟩
              case measure => simp [intOf]; omega
          · have HA2 := Lib.hid (show (L.take (k + 1)).any (fun o => decide (o.d = (n : Int))) = true by rw [HS.out, HA.out]; rfl)
            clear HA HS
            go_wp2
            go_roundw
            case rel => exact ⟨k + 1, true, hlk, by go_num, rfl, HA2, HW⟩
            case measure => simp [intOf]; omega
        · obtain rfl : k = L.length := by omega
          have HAA := Lib.hid (show L.any (fun o => decide (o.d = (n : Int))) = b by rw [← HA.out, List.take_length])
          have HR2 := Lib.hid (row_step HR.out HW.out)
          have HB2 := Lib.hid (keep2 HW.out HB.out)
          clear HA HR
          cases b
          · have HST2 := Lib.hid (show rvu L (n + 1) = R by rw [HST.out, HAA.out]; simp)
            go_wp2
            go_roundw
            case rel => exact ⟨n + 1, HNN.out, by go_num, by rw [HST2.out]; exact HR2, HB2⟩
            case measure => have := HNN.out; simp [intOf]; omega
          · have HST2 := Lib.hid (show rvu L (n + 1) = R ++ [(n : Int)] by rw [HST.out, HAA.out]; simp)
            have hRl : R.length ≤ 100 := by have := HNL.out; have := HNN.out; omega
            have hs2 := HB2.out.size
            go_wp2_with (at_builtin; refine wpList_append_own _ rfl _ _ 22 rfl w.heap.size 3 i0 _ 1 8 Try.underlying22 hi hz0 hz1 hz2 rfl (by decide) _ _ _ rfl (HR2.out.alloc _) ⟨wr.heap.size, 0, none⟩ 1 1 [.int .i64 (n : Int)] rfl rfl (cell_one_new _ _ _ _ (by simp)) (by simp [Value.oneCell']) (by unfold maxLen; omega) (by omega) (by simp; omega) ?_; intro v' w1 hown hgrow _; have HR3 := Lib.hid hown; have HB3 := Lib.hid (below_own (Nat.le_refl _) HB2.out HR2.out hgrow); clear hown hgrow)
            go_roundw
            case rel => exact ⟨n + 1, HNN.out, by go_num, by rw [HST2.out, List.map_append, List.length_append]; exact HR3, HB3⟩
            case measure => have := HNN.out; simp [intOf]; omega
    · obtain rfl : n = 16 := by omega
      have HR2 := Lib.hid (ints_of_row HR.out)
      clear HR
      go_wp2
      go_ret
      exact ⟨_, rfl, HR2.out, HB.out⟩
end Go.Proofs.Ytigpopemllamdaa
