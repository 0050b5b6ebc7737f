/- Hash trees: 'Climb'. -/
import Derived.Test.YtiiehoeoaalbmaaGi
namespace Go.Proofs.Ytiiehoeoaalbmaa
open Go.RowKit

/-- One step of a climb: the index, the digest, the lists so far. -/
structure St where
  i : Int
  h : Int
  L : List (List Int)
def stN (s : St) (x : Int) : St := if x = -1 then ⟨s.i / 2, s.h, s.L⟩ else if s.i % 2 = 1 then ⟨s.i / 2, nd x s.h, s.L ++ [[1, x, s.h]]⟩ else ⟨s.i / 2, nd s.h x, s.L ++ [[1, s.h, x]]⟩
def stK (l : List Int) (i : Int) (p : List Int) : Nat → St
  | 0 => ⟨i, lf l, [l, [0, Dg l]]⟩
  | k + 1 => stN (stK l i p k) (p.getD k 0)
def clB (i : Int) (p : List Int) : Bool := decide (i < 0) || (decide (20 < p.length) || p.any noEl)
def clH (l : List Int) (i : Int) (p : List Int) : Int := if clB i p then 0 else (stK l i p p.length).h
def clL (l : List Int) (i : Int) (p : List Int) : List (List Int) := if clB i p then [] else (stK l i p p.length).L
theorem stN_i (s : St) (x : Int) : (stN s x).i = s.i / 2 := by unfold stN; split; rfl; split <;> rfl
theorem stN_L (s : St) (x : Int) : (stN s x).L.length ≤ s.L.length + 1 := by unfold stN; split; simp; split <;> simp
theorem stK_i (l : List Int) (i : Int) (p : List Int) (h0 : 0 ≤ i) (h1 : i ≤ 9223372036854775807) : ∀ k, 0 ≤ (stK l i p k).i ∧ (stK l i p k).i ≤ 9223372036854775807
  | 0 => ⟨h0, h1⟩
  | k + 1 => by
    have := stK_i l i p h0 h1 k
    rw [show stK l i p (k + 1) = stN (stK l i p k) (p.getD k 0) from rfl, stN_i]
    omega
theorem stK_L (l : List Int) (i : Int) (p : List Int) : ∀ k, (stK l i p k).L.length ≤ 2 + k
  | 0 => by simp [stK]
  | k + 1 => by
    have := stK_L l i p k
    have h := stN_L (stK l i p k) (p.getD k 0)
    rw [show stK l i p (k + 1) = stN (stK l i p k) (p.getD k 0) from rfl]
    omega
theorem ListsR.bound {n0 k : Nat} {Ls : List (List Int)} {lv : Value} {W : World} (h : ListsR n0 Ls lv W) (hk : lv.ownBlock = some k) : k < W.heap.size := by
  obtain ⟨xs, h1, -⟩ := h
  exact row_bound h1 hk
theorem ListsR.slice {n0 : Nat} {Ls : List (List Int)} {lv : Value} {W : World} (h : ListsR n0 Ls lv W) : ∃ a c, lv = .slice a Ls.length c := by
  obtain ⟨xs, h1, -⟩ := h
  exact row_slice h1
theorem ints_low {W : World} {v : Value} {l : List Int} (h : IntsAt W v l) (hl : l ≠ []) (b off n c : Nat) (e : v = .slice (some ⟨b, off, none⟩) n c) : b < W.heap.size := by
  obtain ⟨a, cap, rfl, -, hx⟩ := h
  obtain ⟨b1, o1, rfl, h2⟩ := hx hl
  obtain ⟨rfl, -⟩ : b1 = b ∧ o1 = off := by simp at e; exact e.1
  cases l with
  | nil => exact absurd rfl hl
  | cons x r =>
    have := World.block_lt_of_cell? _ _ (h2 0 x rfl)
    exact this
set_option maxRecDepth 100000 in
set_option maxHeartbeats 4000000 in
theorem climb_no (v pv : Value) (l p : List Int) (i : Int) (w : World) (h : IntsAt w v l) (hp : IntsAt w pv p) (hb : clB i p = true) :
    Calls Try.prog 25 #[v, .int .i64 i, pv] w fun e w' => e = .returned (.tuple #[.int .i64 0, .slice none 0 0]) ∧ Below w.heap.size w w' := by
  have H := Lib.hid h
  have HP := Lib.hid hp
  obtain ⟨a, cap, rfl, -, -⟩ := h
  obtain ⟨pa, pc, rfl, hm, -⟩ := hp
  unfold maxLen at hm
  by_cases h1 : i < 0
  · go_enter Try.func25, Try.ntmps25
    go_wp2
    exact bodyPost_ret (v := .tuple #[.int .i64 0, .slice none 0 0]) (by simp [results, Try.results25, go_sem]) rfl ⟨rfl, Below.refl _ _⟩
  · by_cases h2 : 20 < p.length
    · have g1 : decide ((20 : Int) < p.length) = true := by simp; omega
      have g2 : decide ((p.length : Int) > 20) = true := by simp; omega
      go_enter Try.func25, Try.ntmps25
      go_wp2
      exact bodyPost_ret (v := .tuple #[.int .i64 0, .slice none 0 0]) (by simp [results, Try.results25, go_sem]) rfl ⟨rfl, Below.refl _ _⟩
    · have g1 : decide ((20 : Int) < p.length) = false := by simp; omega
      have g2 : decide ((p.length : Int) > 20) = false := by simp; omega
      have h3 : p.any noEl = true := by
        unfold clB at hb
        simpa [h1, h2] using hb
      have HA := Lib.hid h3
      clear h3 hb
      go_enter Try.func25, Try.ntmps25
      go_wp2_with fail
      refine (contains_any _ p _ HP.out).mono ?_
      rintro e w' ⟨rfl, rfl⟩
      rw [HA.out]
      go_wp2
      exact bodyPost_ret (v := .tuple #[.int .i64 0, .slice none 0 0]) (by simp [results, Try.results25, go_sem]) rfl ⟨rfl, Below.refl _ _⟩
set_option maxRecDepth 100000 in
set_option maxHeartbeats 4000000 in
theorem climb_ok (v pv : Value) (l p : List Int) (i : Int) (w : World) (h : IntsAt w v l) (hp : IntsAt w pv p) (h9 : l.length ≤ 100000) (hi : i ≤ 9223372036854775807) (hb : clB i p = false) :
    Calls Try.prog 25 #[v, .int .i64 i, pv] w fun e w' => (∃ u, e = .returned (.tuple #[.int .i64 (stK l i p p.length).h, u]) ∧ ListsR (w.heap.size + 1) (stK l i p p.length).L u w') ∧ Below w.heap.size w w' := by
  have H := Lib.hid h
  have HP := Lib.hid hp
  have HLO := Lib.hid (fun hl b off n c e => ints_low h hl b off n c e)
  obtain ⟨a, cap, rfl, -, -⟩ := h
  obtain ⟨pa, pc, rfl, -, -⟩ := hp
  obtain ⟨h1, h2, h3⟩ : ¬ i < 0 ∧ ¬ 20 < p.length ∧ p.any noEl = false := by
    unfold clB at hb
    rw [Bool.or_eq_false_iff, Bool.or_eq_false_iff, decide_eq_false_iff_not, decide_eq_false_iff_not] at hb
    exact ⟨hb.1, hb.2.1, hb.2.2⟩
  have HI := Lib.hid (stK_i l i p (by omega) hi)
  have g1 : decide ((20 : Int) < p.length) = false := by simp; omega
  have g2 : decide ((p.length : Int) > 20) = false := by simp; omega
  have HA := Lib.hid h3
  have heg : ∀ args w, (callFunc 61 args).run Try.prog w = .ok (.enter 61 args) w := fun _ _ => by kernel_rfl
  have HB0 := Lib.hid (al w (.cells #[.slice none 0 0] 25))
  have HC0 := Lib.hid (Cs.new w w.heap.size #[.slice none 0 0] 25 rfl)
  clear h3 hb
  go_enter Try.func25, Try.ntmps25
  go_wp2_with fail
  refine (contains_any _ p _ HP.out).mono ?_
  rintro e w' ⟨rfl, rfl⟩
  rw [HA.out]
  go_wp2_with fail
  have HA1 := Lib.hid (H.out.step HB0.out)
  refine (note_any _ l w.heap.size (.slice none 0 0) [] _ HA1.out h9 (ListsR.nil _ _) (by simp) HC0.out (by simp) (fun hl b off n c e => ⟨by have := HLO.out hl b off n c e; omega, fun h => by cases h⟩)).mono ?_
  rintro e w1 ⟨rfl, ⟨lv1, hc1, hl1⟩, hb1⟩
  have HC1 := Lib.hid hc1
  have HL1 := Lib.hid hl1
  have HB1 := Lib.hid (HB0.out.trans hb1)
  have HLL1 := Lib.hid (show ([] ++ [l] : List (List Int)).length ≤ 900 by simp)
  clear hc1 hl1 hb1 HC0 HB0 HA1
  obtain ⟨d1, hd1⟩ : ∃ z, Dg l = z := ⟨_, rfl⟩
  rw [hd1]
  go_wp2_with fail
  refine (note_any (.slice (some ⟨w1.heap.size, 0, none⟩) 2 2) [0, d1] w.heap.size lv1 ([] ++ [l]) _ (ints_lit w1 [0, d1] #[.int .i64 0, .int .i64 d1] 3 rfl (by simp) 2 rfl w1.heap.size rfl) (by simp) (HL1.out.step (al _ _)) (by have := HLL1.out; omega) (HC1.out.alloc _) (by have := HC1.out.2.2; simp; omega) (fun _ b off n c e => by
      have e1 : b = w1.heap.size := by simp at e; exact e.1.1.symm
      subst e1
      exact ⟨by have := HC1.out.2.2; omega, fun h => by have := HL1.out.bound h; omega⟩)).mono ?_
  rintro e w2 ⟨rfl, ⟨lv2, hc2, hl2⟩, hb2⟩
  have HC2 := Lib.hid hc2
  have HL2 := Lib.hid (show ListsR (w.heap.size + 1) (stK l i p 0).L lv2 w2 by rw [← hd1] at hl2; exact hl2)
  have HB2 := Lib.hid ((HB1.out.alloc HB1.out.size (.cells #[.int .i64 0, .int .i64 d1] 3)).trans hb2)
  have HH := Lib.hid (show Dg [0, d1] = (stK l i p 0).h by rw [← hd1]; rfl)
  clear hc2 hl2 hb2 HC1 HL1 HB1 hd1 HLL1
  rw [HH.out]
  go_wp2_with fail
  go_loopw [1, 10, 32] (fun iv hv kv wr => ∃ k : Nat, k ≤ p.length ∧ kv = .int .i64 k ∧ iv = .int .i64 (stK l i p k).i ∧ hv = .int .i64 (stK l i p k).h ∧ (∃ lv, Hid (Cs wr w.heap.size #[lv]) ∧ Hid (ListsR (w.heap.size + 1) (stK l i p k).L lv wr)) ∧ Hid (Below w.heap.size w wr)) (fun _ _ kv _ => p.length - (intOf kv).toNat)
  case atStart => exact ⟨0, by omega, rfl, rfl, rfl, ⟨lv2, HC2, HL2⟩, HB2⟩
  case round =>
    clear HC2 HL2 HB2 HH
    obtain ⟨k, hk, rfl, rfl, rfl, ⟨lv3, HC3, HL3⟩, HB3⟩ := hrel
    by_cases hlt : k < p.length
    · obtain ⟨a2, cap2, hva, -, hcs⟩ := HP.out.step HB3.out
      obtain ⟨rfl, rfl⟩ : pa = a2 ∧ pc = cap2 := by simpa using hva
      obtain ⟨b, off, rfl, hcs2⟩ := hcs (by intro h; rw [h] at hlt; simp at hlt)
      have x0 := hcs2 k _ (getD_of hlt)
      clear hcs hcs2 hva
      have hs : stK l i p (k + 1) = stN (stK l i p k) (p.getD k 0) := rfl
      have hii := HI.out k
      have HLL3 := Lib.hid (show (stK l i p k).L.length ≤ 900 by have := stK_L l i p k; omega)
      have HS := Lib.hid hs
      clear hs
      generalize p.getD k 0 = x at *
      generalize stK l i p k = s at *
      obtain ⟨si, sh, sL⟩ := s
      simp only at hii HLL3 HL3 ⊢
      have hq1 : (si.tmod 2) = si % 2 := Int.tmod_eq_emod_of_nonneg hii.1
      have hq2 : (si.tdiv 2) = si / 2 := Int.tdiv_eq_ediv_of_nonneg hii.1
      have hw1 : wrap64 (si % 2) = si % 2 := IntWalk.wrap64_in _ (by omega)
      have hw2 : wrap64 (si / 2) = si / 2 := IntWalk.wrap64_in _ (by omega)
      by_cases hx : x = -1
      · have HN := Lib.hid (show stN ⟨si, sh, sL⟩ x = ⟨si / 2, sh, sL⟩ by unfold stN; rw [if_pos hx])
        have t1 : (x == -1) = true := by simp; exact hx
        have t2 : decide (x = -1) = true := by simp; exact hx
        clear hx
        go_wp2
        go_roundw
        case rel => exact ⟨k + 1, hlt, by go_num, by rw [HS.out, HN.out], by rw [HS.out, HN.out], ⟨_, HC3, Lib.hid (by rw [HS.out, HN.out]; exact HL3.out)⟩, HB3⟩
        case measure => simp [intOf]; omega
      · have t1 : (x == -1) = false := by simp; exact hx
        have t2 : decide (x = -1) = false := by simp; exact hx
        by_cases ho : si % 2 = 1
        · have HN := Lib.hid (show stN ⟨si, sh, sL⟩ x = ⟨si / 2, nd x sh, sL ++ [[1, x, sh]]⟩ by unfold stN; rw [if_neg hx]; simp only []; rw [if_pos ho])
          have t3 : (si % 2 == 1) = true := by simp; exact ho
          have t4 : decide (si % 2 = 1) = true := by simp; exact ho
          clear hx ho
          go_wp2_with fail
          refine (note_any (.slice (some ⟨wr.heap.size, 0, none⟩) 3 3) [1, x, sh] w.heap.size lv3 sL _ (ints_lit wr [1, x, sh] #[.int .i64 1, .int .i64 x, .int .i64 sh] 3 rfl (by simp) 3 rfl wr.heap.size rfl) (by simp) (HL3.out.step (al _ _)) (by have := HLL3.out; omega) (HC3.out.alloc _) (by have := HC3.out.2.2; simp; omega) (fun _ b off n c e => by
            have e1 : b = wr.heap.size := by simp at e; exact e.1.1.symm
            subst e1
            exact ⟨by have := HC3.out.2.2; omega, fun h => by have := HL3.out.bound h; omega⟩)).mono ?_
          rintro e w4 ⟨rfl, ⟨lv4, hc4, hl4⟩, hb4⟩
          have HC4 := Lib.hid hc4
          have HL4 := Lib.hid hl4
          have HB4 := Lib.hid ((HB3.out.alloc HB3.out.size (.cells #[.int .i64 1, .int .i64 x, .int .i64 sh] 3)).trans hb4)
          rw [show Dg [1, x, sh] = nd x sh from rfl]
          clear hc4 hl4 hb4 HC3 HL3 HB3
          go_wp2
          go_roundw
          case rel => exact ⟨k + 1, hlt, by go_num, by rw [HS.out, HN.out], by rw [HS.out, HN.out], ⟨_, HC4, Lib.hid (by rw [HS.out, HN.out]; exact HL4.out)⟩, HB4⟩
          case measure => simp [intOf]; omega
        · have HN := Lib.hid (show stN ⟨si, sh, sL⟩ x = ⟨si / 2, nd sh x, sL ++ [[1, sh, x]]⟩ by unfold stN; rw [if_neg hx]; simp only []; rw [if_neg ho])
          have t3 : (si % 2 == 1) = false := by simp; omega
          have t4 : decide (si % 2 = 1) = false := by simp; omega
          clear hx ho
          go_wp2_with fail
          refine (note_any (.slice (some ⟨wr.heap.size, 0, none⟩) 3 3) [1, sh, x] w.heap.size lv3 sL _ (ints_lit wr [1, sh, x] #[.int .i64 1, .int .i64 sh, .int .i64 x] 3 rfl (by simp) 3 rfl wr.heap.size rfl) (by simp) (HL3.out.step (al _ _)) (by have := HLL3.out; omega) (HC3.out.alloc _) (by have := HC3.out.2.2; simp; omega) (fun _ b off n c e => by
            have e1 : b = wr.heap.size := by simp at e; exact e.1.1.symm
            subst e1
            exact ⟨by have := HC3.out.2.2; omega, fun h => by have := HL3.out.bound h; omega⟩)).mono ?_
          rintro e w4 ⟨rfl, ⟨lv4, hc4, hl4⟩, hb4⟩
          have HC4 := Lib.hid hc4
          have HL4 := Lib.hid hl4
          have HB4 := Lib.hid ((HB3.out.alloc HB3.out.size (.cells #[.int .i64 1, .int .i64 sh, .int .i64 x] 3)).trans hb4)
          rw [show Dg [1, sh, x] = nd sh x from rfl]
          clear hc4 hl4 hb4 HC3 HL3 HB3
          go_wp2
          go_roundw
          case rel => exact ⟨k + 1, hlt, by go_num, by rw [HS.out, HN.out], by rw [HS.out, HN.out], ⟨_, HC4, Lib.hid (by rw [HS.out, HN.out]; exact HL4.out)⟩, HB4⟩
          case measure => simp [intOf]; omega
    · obtain rfl : k = p.length := by omega
      obtain ⟨la, lc, rfl⟩ := HL3.out.slice
      have c0 := HC3.out.c 0 rfl
      go_wp2_with fail
      go_quiet (fail)
      go_wp2_with fail
      exact bodyPost_ret (v := .tuple #[.int .i64 (stK l i p p.length).h, .slice la (stK l i p p.length).L.length lc]) (by simp [results, Try.results25, go_sem]) rfl ⟨⟨_, rfl, HL3.out.step (below_drewN' _ _ _)⟩, HB3.out.trans (below_drewN' _ _ _)⟩
theorem climb_any (v pv : Value) (l p : List Int) (i : Int) (w : World) (h : IntsAt w v l) (hp : IntsAt w pv p) (h9 : l.length ≤ 100000) (hi : i ≤ 9223372036854775807) :
    Calls Try.prog 25 #[v, .int .i64 i, pv] w fun e w' => (∃ u, e = .returned (.tuple #[.int .i64 (clH l i p), u]) ∧ ListsR (w.heap.size + 1) (clL l i p) u w') ∧ Below w.heap.size w w' := by
  cases hb : clB i p
  · rw [show clH l i p = (stK l i p p.length).h by unfold clH; rw [hb]; rfl, show clL l i p = (stK l i p p.length).L by unfold clL; rw [hb]; rfl]
    exact climb_ok v pv l p i w h hp h9 hi hb
  · rw [show clH l i p = 0 by unfold clH; rw [hb]; rfl, show clL l i p = [] by unfold clL; rw [hb]; rfl]
    exact (climb_no v pv l p i w h hp hb).mono fun e w' h => ⟨⟨_, h.1, ListsR.nil _ _⟩, h.2⟩
end Go.Proofs.Ytiiehoeoaalbmaa
