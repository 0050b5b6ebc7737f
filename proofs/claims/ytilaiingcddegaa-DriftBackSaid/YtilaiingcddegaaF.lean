/- The contracts of 'Before' and the reference's; lists of ints in memory; 'Readings', 'Ints', 'ContainsFunc'. -/
import Derived.Test.YtilaiingcddegaaE
import Derived.Deep.Slices
import Derived.Lib.SmallJoins
namespace Go.Proofs.Ytilaiingcddegaa
open Go.RowKit

theorem b_cases (a b c d : Int) : (bF a b c d = false ∧ rng a b = false) ∨ (bF a b c d = false ∧ rng a b = true ∧ rng c d = false) ∨ (bF a b c d = decide (b < c) ∧ rng a b = true ∧ rng c d = true) := by
  unfold bF
  cases rng a b <;> cases rng c d <;> simp
set_option maxRecDepth 100000 in
set_option maxHeartbeats 2000000 in
theorem before_any (a b c d : Int) (w : World) : Calls Try.prog 16 #[.agg #[.int .i64 a, .int .i64 b], .agg #[.int .i64 c, .int .i64 d]] w fun e w' => e = .returned (.bool (bF a b c d)) ∧ Below w.heap.size w w' := by
  rcases b_cases a b c d with ⟨h1, h4⟩ | ⟨h1, h4, h5⟩ | ⟨h1, h4, h5⟩ <;> rw [h1] <;> clear h1
  · go_enter Try.func16, Try.ntmps16
    go_wp2_with (go_at_call 26; (first | (with_reducible refine (isRange_any a b _).mono ?_) | (with_reducible refine (isRange_any c d _).mono ?_)); rintro e w1 ⟨rfl, rfl⟩; rw [h4])
    go_ret
    exact ⟨rfl, (by repeat (first | with_reducible exact Below.refl _ _ | with_reducible exact Below.refl _ _ | ((with_reducible refine Below.setCell ?_ ?_ _); rotate_left; focus (first | (simp; done) | (simp; omega) | omega)) | ((with_reducible refine Below.alloc ?_ ?_ _); rotate_left; focus (first | (simp; done) | (simp; omega) | omega)) | with_reducible refine Below.trans ?_ (below_drewN' _ _ _) | with_reducible refine Below.trans ?_ (below_drew _ _)))⟩
  · go_enter Try.func16, Try.ntmps16
    go_wp2_with (go_at_call 26; (first | (with_reducible refine (isRange_any a b _).mono ?_) | (with_reducible refine (isRange_any c d _).mono ?_)); rintro e w1 ⟨rfl, rfl⟩; (first | rw [h4] | rw [h5]))
    go_ret
    exact ⟨rfl, (by repeat (first | with_reducible exact Below.refl _ _ | with_reducible exact Below.refl _ _ | ((with_reducible refine Below.setCell ?_ ?_ _); rotate_left; focus (first | (simp; done) | (simp; omega) | omega)) | ((with_reducible refine Below.alloc ?_ ?_ _); rotate_left; focus (first | (simp; done) | (simp; omega) | omega)) | with_reducible refine Below.trans ?_ (below_drewN' _ _ _) | with_reducible refine Below.trans ?_ (below_drew _ _)))⟩
  · go_enter Try.func16, Try.ntmps16
    go_wp2_with (go_at_call 26; (first | (with_reducible refine (isRange_any a b _).mono ?_) | (with_reducible refine (isRange_any c d _).mono ?_)); rintro e w1 ⟨rfl, rfl⟩; (first | rw [h4] | rw [h5]))
    go_ret
    exact ⟨rfl, (by repeat (first | with_reducible exact Below.refl _ _ | with_reducible exact Below.refl _ _ | ((with_reducible refine Below.setCell ?_ ?_ _); rotate_left; focus (first | (simp; done) | (simp; omega) | omega)) | ((with_reducible refine Below.alloc ?_ ?_ _); rotate_left; focus (first | (simp; done) | (simp; omega) | omega)) | with_reducible refine Below.trans ?_ (below_drewN' _ _ _) | with_reducible refine Below.trans ?_ (below_drew _ _)))⟩
set_option maxRecDepth 100000 in
set_option maxHeartbeats 2000000 in
theorem rbefore_any (a b c d : Int) (w : World) : Calls Try.prog 17 #[.agg #[.int .i64 a, .int .i64 b], .agg #[.int .i64 c, .int .i64 d]] w fun e w' => e = .returned (.bool (bF a b c d)) ∧ Below w.heap.size w w' := by
  rcases b_cases a b c d with ⟨h1, h4⟩ | ⟨h1, h4, h5⟩ | ⟨h1, h4, h5⟩ <;> rw [h1] <;> clear h1
  · go_enter Try.func17, Try.ntmps17
    go_wp2_with (go_at_call 22; (first | (with_reducible refine (valid_any a b _).mono ?_) | (with_reducible refine (valid_any c d _).mono ?_)); rintro e w1 ⟨rfl, rfl⟩; rw [h4])
    go_ret
    exact ⟨rfl, (by repeat (first | with_reducible exact Below.refl _ _ | with_reducible exact Below.refl _ _ | ((with_reducible refine Below.setCell ?_ ?_ _); rotate_left; focus (first | (simp; done) | (simp; omega) | omega)) | ((with_reducible refine Below.alloc ?_ ?_ _); rotate_left; focus (first | (simp; done) | (simp; omega) | omega)) | with_reducible refine Below.trans ?_ (below_drewN' _ _ _) | with_reducible refine Below.trans ?_ (below_drew _ _)))⟩
  · go_enter Try.func17, Try.ntmps17
    go_wp2_with (go_at_call 22; (first | (with_reducible refine (valid_any a b _).mono ?_) | (with_reducible refine (valid_any c d _).mono ?_)); rintro e w1 ⟨rfl, rfl⟩; (first | rw [h4] | rw [h5]))
    go_ret
    exact ⟨rfl, (by repeat (first | with_reducible exact Below.refl _ _ | with_reducible exact Below.refl _ _ | ((with_reducible refine Below.setCell ?_ ?_ _); rotate_left; focus (first | (simp; done) | (simp; omega) | omega)) | ((with_reducible refine Below.alloc ?_ ?_ _); rotate_left; focus (first | (simp; done) | (simp; omega) | omega)) | with_reducible refine Below.trans ?_ (below_drewN' _ _ _) | with_reducible refine Below.trans ?_ (below_drew _ _)))⟩
  · go_enter Try.func17, Try.ntmps17
    go_wp2_with (go_at_call 22; (first | (with_reducible refine (valid_any a b _).mono ?_) | (with_reducible refine (valid_any c d _).mono ?_)); rintro e w1 ⟨rfl, rfl⟩; (first | rw [h4] | rw [h5]))
    go_ret
    exact ⟨rfl, (by repeat (first | with_reducible exact Below.refl _ _ | with_reducible exact Below.refl _ _ | ((with_reducible refine Below.setCell ?_ ?_ _); rotate_left; focus (first | (simp; done) | (simp; omega) | omega)) | ((with_reducible refine Below.alloc ?_ ?_ _); rotate_left; focus (first | (simp; done) | (simp; omega) | omega)) | with_reducible refine Below.trans ?_ (below_drewN' _ _ _) | with_reducible refine Below.trans ?_ (below_drew _ _)))⟩

/-- A list of ints lies behind a slice. -/
def IntsAt (w : World) (v : Value) (l : List Int) : Prop :=
  ∃ a cap, v = .slice a l.length cap ∧ l.length ≤ maxLen ∧ (l ≠ [] → ∃ b off, a = some ⟨b, off, none⟩ ∧ ∀ (i : Nat) (x : Int), l[i]? = some x → w.cell? ⟨b, off + i, none⟩ = some (.int .i64 x))
theorem IntsAt.step {w w1 : World} {v : Value} {l : List Int} (h : IntsAt w v l) (hb : Below w.heap.size w w1) : IntsAt w1 v l := by
  obtain ⟨a, cap, hv, hm, hc⟩ := h
  refine ⟨a, cap, hv, hm, fun hl => ?_⟩
  obtain ⟨b, off, ha, hx⟩ := hc hl
  exact ⟨b, off, ha, fun i x h => keep1 hb (hx i x h)⟩
theorem ints_nil (w : World) : IntsAt w (.slice none 0 0) [] := ⟨none, 0, rfl, by simp, fun h => absurd rfl h⟩

/-- Whether readings are in range, and not too many. -/
def inR (l : List Int) : Bool := l.all (fun x => inB x (-1000000000) 1000000000)
def rdB (l : List Int) : Bool := inR l && decide (l.length ≤ 400)
theorem inR_no {l : List Int} {k : Nat} (hk : k < l.length) (h : inB l[k] (-1000000000) 1000000000 = false) : inR l = false := by
  unfold inR
  rw [List.all_eq_false]
  exact ⟨l[k], List.getElem_mem hk, by rw [h]; exact Bool.false_ne_true⟩
theorem inR_yes {l : List Int} (h : ∀ j (hj : j < l.length), inB l[j] (-1000000000) 1000000000 = true) : inR l = true := by
  unfold inR
  rw [List.all_eq_true]
  intro x hx
  obtain ⟨j, hj, rfl⟩ := List.getElem_of_mem hx
  exact h j hj

set_option maxRecDepth 100000 in
set_option maxHeartbeats 1000000 in
theorem readings_any (v : Value) (l : List Int) (w : World) (h : IntsAt w v l) :
    Calls Try.prog 23 #[v] w fun e w' => e = .returned (.bool (rdB l)) ∧ w = w' := by
  obtain ⟨a, cap, rfl, hm, hc⟩ := h
  unfold maxLen at hm
  have HC := Lib.hid hc
  clear hc
  go_enter Try.func23, Try.ntmps23
  go_wp2_with fail
  go_loop [3] (fun i => ∃ k : Nat, k ≤ l.length ∧ i = .int .i64 k ∧ Hid (∀ j (hj : j < l.length), j < k → inB l[j] (-1000000000) 1000000000 = true)) (fun i => l.length - (intOf i).toNat)
  case atStart => exact ⟨0, by omega, rfl, fun j hj h => absurd h (by omega)⟩
  case round =>
    obtain ⟨k, hk, rfl, HN⟩ := hrel
    by_cases hlt : k < l.length
    · obtain ⟨b, off, rfl, hcs⟩ := HC.out (by intro h; rw [h] at hlt; simp at hlt)
      have hx := hcs k l[k] (by simp)
      clear hcs
      cases hf : inB l[k] (-1000000000) 1000000000
      · have HF := Lib.hid (show rdB l = false by unfold rdB; rw [inR_no hlt hf]; rfl)
        generalize l[k] = x at *
        go_wp2_with (go_at_call 25; go_must (refine (between_any x _ _ _).mono ?_); rintro e w' ⟨rfl, rfl⟩; rw [hf])
        go_ret
        exact ⟨ret_bool HF.out.symm, rfl⟩
      · have HN2 := Lib.hid (show ∀ j (hj : j < l.length), j < k + 1 → inB l[j] (-1000000000) 1000000000 = true from fun j hj h => by
          by_cases e : j = k
          · subst e; exact hf
          · exact HN.out j hj (by omega))
        generalize l[k] = x at *
        go_wp2_with (go_at_call 25; go_must (refine (between_any x _ _ _).mono ?_); rintro e w' ⟨rfl, rfl⟩; rw [hf])
        go_round
        case rel => exact ⟨k + 1, by omega, by go_num, HN2⟩
        case measure => simp [intOf]; omega
    · have HF := Lib.hid (show rdB l = decide (l.length ≤ 400) by unfold rdB; rw [inR_yes fun j hj => HN.out j hj (by omega)]; rfl)
      have q : decide ((l.length : Int) ≤ 400) = decide (l.length ≤ 400) := by rw [decide_eq_decide]; omega
      have Q := Lib.hid q
      clear q
      go_wp2
      go_ret
      exact ⟨ret_bool (by rw [HF.out, Q.out]), rfl⟩

/-- Two lists are equal. -/
def eqI (x y : List Int) : Bool := decide (x = y)
theorem eqI_len {x y : List Int} (h : x.length ≠ y.length) : eqI x y = false := by unfold eqI; rw [decide_eq_false_iff_not]; rintro rfl; exact h rfl
theorem eqI_no {x y : List Int} {k : Nat} (h1 : k < x.length) (h2 : k < y.length) (h : x[k] ≠ y[k]) : eqI x y = false := by
  unfold eqI; rw [decide_eq_false_iff_not]; rintro rfl; exact h rfl
theorem eqI_yes {x y : List Int} (hl : x.length = y.length) (h : ∀ k (h1 : k < x.length) (h2 : k < y.length), x[k] = y[k]) : eqI x y = true := by
  unfold eqI; rw [decide_eq_true_iff]; exact List.ext_getElem hl h
set_option maxRecDepth 100000 in
set_option maxHeartbeats 2000000 in
theorem ints_any (va vb : Value) (x y : List Int) (w : World) (ha : IntsAt w va x) (hb : IntsAt w vb y) :
    Calls Try.prog 18 #[va, vb] w fun e w' => e = .returned (.bool (eqI x y)) ∧ Below w.heap.size w w' := by
  obtain ⟨aa, ca, rfl, hma, hca⟩ := ha
  obtain ⟨ab, cb, rfl, hmb, hcb⟩ := hb
  unfold maxLen at hma hmb
  have HA := Lib.hid hca
  have HB := Lib.hid hcb
  clear hca hcb
  by_cases hl : x.length = y.length
  · have q1 : ((x.length : Int) != (y.length : Int)) = false := by simp; omega
    have HL := Lib.hid hl
    have hl1 : x.length ≤ y.length := by omega
    clear hl
    go_enter Try.func18, Try.ntmps18
    go_wp2_with fail
    go_loopw [5] (fun i wr => ∃ k n : Nat, k ≤ x.length ∧ i = .int .i64 k ∧ wr = w.drewN n ∧ Hid (∀ j (h1 : j < x.length) (h2 : j < y.length), j < k → x[j] = y[j])) (fun i _ => x.length - (intOf i).toNat)
    case atStart => exact ⟨0, 0, by omega, rfl, rfl, fun j _ _ h => absurd h (by omega)⟩
    case round =>
      obtain ⟨k, n, hk, rfl, rfl, HS⟩ := hrel
      by_cases hlt : k < x.length
      · obtain ⟨b1, o1, rfl, hcs1⟩ := HA.out (by intro h; rw [h] at hlt; simp at hlt)
        obtain ⟨b2, o2, rfl, hcs2⟩ := HB.out (by intro h; rw [h] at hl1; simp at hl1; rw [hl1] at hlt; simp at hlt)
        have hlt2 : k < y.length := by omega
        have a0 := hcs1 k x[k] (by simp)
        have c0 := hcs2 k y[k] (by simp)
        clear hcs1 hcs2
        by_cases he : x[k] = y[k]
        · have q2 : (x[k] != y[k]) = false := by simpa using he
          have HN := Lib.hid (show ∀ j (h1 : j < x.length) (h2 : j < y.length), j < k + 1 → x[j] = y[j] from fun j h1 h2 h => by
            by_cases e : j = k
            · subst e; exact he
            · exact HS.out j h1 h2 (by omega))
          clear he
          generalize x[k] = xk at *
          generalize y[k] = yk at *
          go_wp2
          go_quiet (fail)
          go_wp2
          go_roundw
          case rel => exact ⟨k + 1, n + nq, by omega, by go_num, rfl, HN⟩
          case measure => simp [intOf]; omega
        · have q2 : (x[k] != y[k]) = true := by simpa using he
          have HF := Lib.hid (eqI_no hlt hlt2 he)
          clear he
          generalize x[k] = xk at *
          generalize y[k] = yk at *
          go_wp2
          go_quiet (fail)
          go_wp2
          go_ret
          exact ⟨ret_bool HF.out.symm, (below_drewN' _ _ _).trans (below_drewN' _ _ _)⟩
      · have HF := Lib.hid (eqI_yes HL.out fun j h1 h2 => HS.out j h1 h2 (by omega))
        go_wp2
        go_ret
        exact ⟨ret_bool HF.out.symm, below_drewN' _ _ _⟩
  · have q1 : ((x.length : Int) != (y.length : Int)) = true := by simp; omega
    have HF := Lib.hid (eqI_len hl)
    clear hl
    go_enter Try.func18, Try.ntmps18
    go_wp2
    go_ret
    exact ⟨ret_bool HF.out.symm, Below.refl _ _⟩

theorem outside_any (x : Int) (w : World) :
    Calls Try.prog 27 #[.int .i64 x] w fun e w' => e = .returned (.bool (!inB x (-1000000000) 1000000000)) ∧ w = w' := by
  go_enter Try.func27, Try.ntmps27
  go_wp2_with (go_at_call 28; go_must (refine (within_any x _ _ _).mono ?_); rintro e w' ⟨rfl, rfl⟩)
  go_ret
  exact ⟨rfl, rfl⟩
end Go.Proofs.Ytilaiingcddegaa
