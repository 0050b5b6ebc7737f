import Derived.Laws.Cover3
import Derived.Test.YtnanndmpbecdiaaDb
namespace Go.Proofs.Ytnanndmpbecdiaa
open Go.RowKit

theorem an_hit {l : List Bool} {k : Nat} {b : Bool} (h : k < l.length) (hb : l.getD k false = b) : l.any (fun x => x == b) = true := by
  rw [List.any_eq_true]
  exact ⟨l.getD k false, List.mem_of_getElem? (bo_get h), by rw [hb]; simp⟩
theorem an_none {l : List Bool} {b : Bool} (h : ∀ j, j < l.length → l.getD j false = !b) : l.any (fun x => x == b) = false := by
  rw [List.any_eq_false]
  intro x hx
  obtain ⟨j, hj⟩ := List.getElem?_of_mem hx
  have h1 : j < l.length := (List.getElem?_eq_some_iff.1 hj).1
  have h2 := h j h1
  have h3 := bo_get h1
  rw [h3] at hj
  rw [← Option.some.inj hj, h2]
  cases b <;> simp
set_option maxRecDepth 100000 in
set_option maxHeartbeats 2000000 in
theorem bindex_any (v : Value) (l : List Bool) (b : Bool) (w : World) (h : BosAt w v l) :
    Calls Try.prog 42 #[v, .bool b] w fun e w' => (∃ k : Int, e = .returned (.int .i64 k) ∧ decide (0 ≤ k) = l.any (fun x => x == b)) ∧ Below w.heap.size w w' := by
  have HL := Lib.hid h
  obtain ⟨a, cap, rfl, hm, hc⟩ := h
  unfold maxLen at hm
  clear hc
  go_enter Try.func42, Try.ntmps42
  go_wp2_with fail
  go_loopw [8] (fun i wr => ∃ k : Nat, k ≤ l.length ∧ i = .int .i64 k ∧ Hid (∀ j, j < k → l.getD j false = !b) ∧ Hid (Below w.heap.size w wr)) (fun i _ => l.length - (intOf i).toNat)
  case atStart => exact ⟨0, by omega, rfl, fun j h => absurd h (by omega), Below.refl _ _⟩
  case round =>
    obtain ⟨k, hk, rfl, HN, HB⟩ := hrel
    by_cases hlt : k < l.length
    · obtain ⟨a2, cap2, hva, -, hcs⟩ := HL.out.step HB.out
      obtain ⟨rfl, rfl⟩ : a = a2 ∧ cap = cap2 := by simpa using hva
      obtain ⟨bb, off, rfl, hcs2⟩ := hcs (by intro h; rw [h] at hlt; simp at hlt)
      have x0 := hcs2 k _ (bo_get hlt)
      clear hcs hcs2 hva
      by_cases hf : l.getD k false = b
      · have HA := Lib.hid (an_hit hlt hf)
        rw [hf] at x0
        clear hf HN
        cases b
        all_goals
          go_wp2
          go_ret
          exact ⟨⟨k, rfl, by rw [HA.out]; simp⟩, HB.out⟩
      · have hg : l.getD k false = !b := by cases h1 : l.getD k false <;> cases b <;> simp_all
        have HN2 := Lib.hid (show ∀ j, j < k + 1 → l.getD j false = !b from fun j h => by
          by_cases e : j = k
          · subst e; exact hg
          · exact HN.out j (by omega))
        rw [hg] at x0
        clear hf hg HN
        cases b
        all_goals
          simp only [Bool.not_false, Bool.not_true] at x0
          go_wp2
          go_roundw
          case rel => exact ⟨k + 1, by omega, by go_num, HN2, HB⟩
          case measure => simp [intOf]; omega
    · have HF := Lib.hid (an_none fun j hj => HN.out j (by omega))
      go_wp2
      go_ret
      exact ⟨⟨-1, rfl, by rw [HF.out]; rfl⟩, HB.out⟩
theorem bcontains_any (v : Value) (l : List Bool) (b : Bool) (w : World) (h : BosAt w v l) :
    Calls Try.prog 41 #[v, .bool b] w fun e w' => e = .returned (.bool (l.any (fun x => x == b))) ∧ Below w.heap.size w w' := by
  have H := Lib.hid h
  clear h
  go_enter Try.func41, Try.ntmps41
  go_wp2_with fail
  refine (bindex_any v l b _ H.out).mono ?_
  rintro e w' ⟨⟨k, rfl, hk⟩, b1⟩
  have HK := Lib.hid hk
  have HB := Lib.hid b1
  clear hk b1
  go_wp2
  go_ret
  exact ⟨ret_bool HK.out, HB.out⟩
set_option maxRecDepth 100000 in
set_option maxHeartbeats 4000000 in
/-- The window before any number. -/
theorem isw_new (v : Value) (w : World) (h : BosAt w v (List.replicate 16 false)) :
    Calls Try.prog 39 #[.agg #[.int .i64 (-1), v]] w fun e w' => e = .returned (.bool true) ∧ Below w.heap.size w w' := by
  obtain ⟨a, cap, rfl, hm, hc⟩ := h
  obtain ⟨b, off, rfl, hx⟩ := hc (by simp)
  have HC := Lib.hid (Cs.new w w.heap.size #[.int .i64 (-1), .slice (some ⟨b, off, none⟩) (List.replicate 16 false).length cap] 28 rfl)
  have HB := Lib.hid (al w (.cells #[.int .i64 (-1), .slice (some ⟨b, off, none⟩) (List.replicate 16 false).length cap] 28))
  have x0 : (w.alloc (.cells #[.int .i64 (-1), .slice (some ⟨b, off, none⟩) (List.replicate 16 false).length cap] 28)).cell? ⟨b, off + 0, none⟩ = some (.bool false) := keep1 (al w _) (hx 0 false rfl)
  have x1 : (w.alloc (.cells #[.int .i64 (-1), .slice (some ⟨b, off, none⟩) (List.replicate 16 false).length cap] 28)).cell? ⟨b, off + 1, none⟩ = some (.bool false) := keep1 (al w _) (hx 1 false rfl)
  have x2 : (w.alloc (.cells #[.int .i64 (-1), .slice (some ⟨b, off, none⟩) (List.replicate 16 false).length cap] 28)).cell? ⟨b, off + 2, none⟩ = some (.bool false) := keep1 (al w _) (hx 2 false rfl)
  have x3 : (w.alloc (.cells #[.int .i64 (-1), .slice (some ⟨b, off, none⟩) (List.replicate 16 false).length cap] 28)).cell? ⟨b, off + 3, none⟩ = some (.bool false) := keep1 (al w _) (hx 3 false rfl)
  have x4 : (w.alloc (.cells #[.int .i64 (-1), .slice (some ⟨b, off, none⟩) (List.replicate 16 false).length cap] 28)).cell? ⟨b, off + 4, none⟩ = some (.bool false) := keep1 (al w _) (hx 4 false rfl)
  have x5 : (w.alloc (.cells #[.int .i64 (-1), .slice (some ⟨b, off, none⟩) (List.replicate 16 false).length cap] 28)).cell? ⟨b, off + 5, none⟩ = some (.bool false) := keep1 (al w _) (hx 5 false rfl)
  have x6 : (w.alloc (.cells #[.int .i64 (-1), .slice (some ⟨b, off, none⟩) (List.replicate 16 false).length cap] 28)).cell? ⟨b, off + 6, none⟩ = some (.bool false) := keep1 (al w _) (hx 6 false rfl)
  have x7 : (w.alloc (.cells #[.int .i64 (-1), .slice (some ⟨b, off, none⟩) (List.replicate 16 false).length cap] 28)).cell? ⟨b, off + 7, none⟩ = some (.bool false) := keep1 (al w _) (hx 7 false rfl)
  have x8 : (w.alloc (.cells #[.int .i64 (-1), .slice (some ⟨b, off, none⟩) (List.replicate 16 false).length cap] 28)).cell? ⟨b, off + 8, none⟩ = some (.bool false) := keep1 (al w _) (hx 8 false rfl)
  have x9 : (w.alloc (.cells #[.int .i64 (-1), .slice (some ⟨b, off, none⟩) (List.replicate 16 false).length cap] 28)).cell? ⟨b, off + 9, none⟩ = some (.bool false) := keep1 (al w _) (hx 9 false rfl)
  have x10 : (w.alloc (.cells #[.int .i64 (-1), .slice (some ⟨b, off, none⟩) (List.replicate 16 false).length cap] 28)).cell? ⟨b, off + 10, none⟩ = some (.bool false) := keep1 (al w _) (hx 10 false rfl)
  have x11 : (w.alloc (.cells #[.int .i64 (-1), .slice (some ⟨b, off, none⟩) (List.replicate 16 false).length cap] 28)).cell? ⟨b, off + 11, none⟩ = some (.bool false) := keep1 (al w _) (hx 11 false rfl)
  have x12 : (w.alloc (.cells #[.int .i64 (-1), .slice (some ⟨b, off, none⟩) (List.replicate 16 false).length cap] 28)).cell? ⟨b, off + 12, none⟩ = some (.bool false) := keep1 (al w _) (hx 12 false rfl)
  have x13 : (w.alloc (.cells #[.int .i64 (-1), .slice (some ⟨b, off, none⟩) (List.replicate 16 false).length cap] 28)).cell? ⟨b, off + 13, none⟩ = some (.bool false) := keep1 (al w _) (hx 13 false rfl)
  have x14 : (w.alloc (.cells #[.int .i64 (-1), .slice (some ⟨b, off, none⟩) (List.replicate 16 false).length cap] 28)).cell? ⟨b, off + 14, none⟩ = some (.bool false) := keep1 (al w _) (hx 14 false rfl)
  have x15 : (w.alloc (.cells #[.int .i64 (-1), .slice (some ⟨b, off, none⟩) (List.replicate 16 false).length cap] 28)).cell? ⟨b, off + 15, none⟩ = some (.bool false) := keep1 (al w _) (hx 15 false rfl)
  have hat : ∀ w, (Instr.arrayAt 93 (.slice (some ⟨b, off, none⟩) 16 cap)).run Try.prog w = .ok (.pointer (some ⟨b, off, none⟩)) w := fun w => run_arrayAt w 93 _ 16 _ 16 cap Try.underlying93 (Nat.le_refl _)
  have heq : ∀ w, (Op.equalIn 10000 93 (.agg #[.bool false, .bool false, .bool false, .bool false, .bool false, .bool false, .bool false, .bool false, .bool false, .bool false, .bool false, .bool false, .bool false, .bool false, .bool false, .bool false]) (.agg #[.bool false, .bool false, .bool false, .bool false, .bool false, .bool false, .bool false, .bool false, .bool false, .bool false, .bool false, .bool false, .bool false, .bool false, .bool false, .bool false])).run Try.prog w = .ok true w := fun _ => by kernel_rfl
  simp only [List.length_replicate, Nat.add_zero] at *
  clear hx hc hm
  go_enter Try.func39, Try.ntmps39
  go_wp2
  go_ret
  exact ⟨rfl, HB.out⟩
theorem bos_cut {w : World} {b off cap k n : Nat} {l : List Bool} (h : BosAt w (.slice (some ⟨b, off, none⟩) n cap) l) (hk : k ≤ l.length) (a : Option Addr) (ha : k < l.length → a = some ⟨b, off + k, none⟩) (c : Nat) : BosAt w (.slice a (l.length - k) c) (l.drop k) := by
  obtain ⟨a', cap', he, hm, hc⟩ := h
  refine ⟨a, c, by rw [List.length_drop], by rw [List.length_drop]; omega, fun hne => ?_⟩
  have h1 : k < l.length := by
    apply Classical.byContradiction; intro h
    exact hne (List.drop_eq_nil_of_le (by omega))
  obtain ⟨b', off', ha', hx⟩ := hc (by intro e; rw [e] at h1; simp at h1)
  obtain ⟨rfl, -, -⟩ : some (⟨b, off, none⟩ : Addr) = a' ∧ n = l.length ∧ cap = cap' := by simpa using he
  obtain ⟨rfl, rfl⟩ : b = b' ∧ off = off' := by simpa using ha'
  refine ⟨b, off + k, ha h1, fun i x hi => ?_⟩
  rw [List.getElem?_drop] at hi
  rw [Nat.add_assoc]
  exact hx (k + i) x hi
open Go.RowKit

/-- What the window says. -/
def wkB (t : Nat) (l : List Bool) : Bool := l.getD 0 false && !(l.drop (min (t + 1) 16)).any (fun x => x == true)
set_option maxRecDepth 100000 in
set_option maxHeartbeats 4000000 in
theorem isw_old (t : Nat) (aa : Option Addr) (c : Nat) (l : List Bool) (w : World) (h : BosAt w (.slice aa 16 (c + 16)) l) (hl : l.length = 16) (ht : t ≤ 1000000) :
    Calls Try.prog 39 #[.agg #[.int .i64 t, .slice aa 16 (c + 16)]] w fun e w' => e = .returned (.bool (wkB t l)) ∧ Below w.heap.size w w' := by
  have HL0 := Lib.hid h
  obtain ⟨a, cap, he, hm, hc⟩ := h
  obtain ⟨rfl, -, rfl⟩ : aa = a ∧ 16 = l.length ∧ c + 16 = cap := by simpa using he
  obtain ⟨b, off, rfl, hx⟩ := hc (by intro e; rw [e] at hl; simp at hl)
  clear he
  have HC := Lib.hid (Cs.new w w.heap.size #[.int .i64 t, .slice (some ⟨b, off, none⟩) 16 (c + 16)] 28 rfl)
  have HB := Lib.hid (al w (.cells #[.int .i64 t, .slice (some ⟨b, off, none⟩) 16 (c + 16)] 28))
  have HL := Lib.hid (HL0.out.step HB.out)
  have x0 := keep1 HB.out (show w.cell? ⟨b, off, none⟩ = some (.bool (l.getD 0 false)) from hx 0 _ (bo_get (by omega)))
  have HQ := Lib.hid hl
  clear hx hc hm HL0
  clear hl
  have d1 : decide ((t : Int) < -1) = false := by simp
  have d2 : decide (1000000 < (t : Int)) = false := by simp; omega
  have d3 : ((t : Int) == -1) = false := by simp
  have HT := Lib.hid ht
  clear ht
  obtain ⟨q, hq⟩ : ∃ q, (l.drop (min (t + 1) 16)).any (fun x => x == true) = q := ⟨_, rfl⟩
  have HQ2 := Lib.hid hq
  clear hq
  cases h0 : l.getD 0 false
  · have HR := Lib.hid (show wkB t l = false by unfold wkB; rw [h0]; rfl)
    rw [h0] at x0
    go_enter Try.func39, Try.ntmps39
    go_wp2
    go_ret
    exact ⟨ret_bool HR.out.symm, HB.out⟩
  · have HR := Lib.hid (show wkB t l = !q by unfold wkB; rw [h0, HQ2.out]; rfl)
    rw [h0] at x0
    have hw : wrap64 ((t : Int) + 1) = ((t + 1 : Nat) : Int) := by rw [IntWalk.wrap64_in _ (by have := HT.out; omega)]; rfl
    have hn : (((t + 1 : Nat) : Int)).toNat = t + 1 := Int.toNat_natCast _
    by_cases h1 : t + 1 < 16
    · have hz : ¬ (c + 16 - (t + 1) = 0) := by omega
      have hz2 : ¬ (c + 16 = t + 1) := by omega
      have H1 := Lib.hid h1
      have HD := Lib.hid (show BosAt (w.alloc (.cells #[.int .i64 t, .slice (some ⟨b, off, none⟩) 16 (c + 16)] 28)) (.slice (some ⟨b, off + (t + 1), none⟩) (15 - t) (c + 15 - t)) (l.drop (t + 1)) from by
        have h := bos_cut HL.out (k := t + 1) (by have := HQ.out; omega) _ (fun _ => rfl) (c + 15 - t)
        rwa [show l.length - (t + 1) = 15 - t by have := HQ.out; omega] at h)
      have HM := Lib.hid (show min (t + 1) 16 = t + 1 by omega)
      rw [HM.out] at HQ2
      go_enter Try.func39, Try.ntmps39
      go_wp2_with fail
      refine (bcontains_any _ _ true _ HD.out).mono ?_
      rintro e w' ⟨rfl, b1⟩
      rw [HQ2.out]
      have HB2 := Lib.hid (keep2 b1 HB.out)
      clear b1
      go_wp2
      go_ret
      exact ⟨ret_bool HR.out.symm, HB2.out⟩
    · by_cases h2 : t = 15
      · subst h2
        rw [show ((15 : Nat) : Int) = 15 from rfl] at HC HB HL x0 ⊢
        clear h1 hw hn d1 d2 d3
        have HM := Lib.hid (show min (15 + 1) 16 = 16 by omega)
        rw [HM.out] at HQ2
        by_cases hc : c = 0
        · subst hc
          rw [Nat.zero_add] at HC HB HL x0 ⊢
          have HD := Lib.hid (show BosAt (w.alloc (.cells #[.int .i64 15, .slice (some ⟨b, off, none⟩) 16 16] 28)) (.slice (some ⟨b, off, none⟩) 0 0) (l.drop 16) from by
            have h := bos_cut HL.out (k := 16) (by have := HQ.out; omega) (some ⟨b, off, none⟩) (fun h => absurd h (by have := HQ.out; omega)) 0
            rwa [show l.length - 16 = 0 by have := HQ.out; omega] at h)
          go_enter Try.func39, Try.ntmps39
          go_wp2_with fail
          refine (bcontains_any _ _ true _ HD.out).mono ?_
          rintro e w' ⟨rfl, b1⟩
          rw [HQ2.out]
          have HB2 := Lib.hid (keep2 b1 HB.out)
          clear b1
          go_wp2
          go_ret
          exact ⟨ret_bool HR.out.symm, HB2.out⟩
        · have hz : ¬ (c + 16 - 16 = 0) := by omega
          have HD := Lib.hid (show BosAt (w.alloc (.cells #[.int .i64 15, .slice (some ⟨b, off, none⟩) 16 (c + 16)] 28)) (.slice (some ⟨b, off + 16, none⟩) 0 c) (l.drop 16) from by
            have h := bos_cut HL.out (k := 16) (by have := HQ.out; omega) (some ⟨b, off + 16, none⟩) (fun _ => rfl) c
            rwa [show l.length - 16 = 0 by have := HQ.out; omega] at h)
          go_enter Try.func39, Try.ntmps39
          go_wp2_with fail
          refine (bcontains_any _ _ true _ HD.out).mono ?_
          rintro e w' ⟨rfl, b1⟩
          rw [HQ2.out]
          have HB2 := Lib.hid (keep2 b1 HB.out)
          clear b1
          go_wp2
          go_ret
          exact ⟨ret_bool HR.out.symm, HB2.out⟩
      · have hmn : ¬ (((t + 1 : Nat) : Int) ≤ 16) := by omega
        have H1 := Lib.hid h1
        have H2 := Lib.hid h2
        clear h1 h2
        have HM := Lib.hid (show min (t + 1) 16 = 16 by have := H1.out; omega)
        rw [HM.out] at HQ2
        by_cases hc : c = 0
        · subst hc
          rw [Nat.zero_add] at HC HB HL x0 ⊢
          have HD := Lib.hid (show BosAt (w.alloc (.cells #[.int .i64 t, .slice (some ⟨b, off, none⟩) 16 16] 28)) (.slice (some ⟨b, off, none⟩) 0 0) (l.drop 16) from by
            have h := bos_cut HL.out (k := 16) (by have := HQ.out; omega) (some ⟨b, off, none⟩) (fun h => absurd h (by have := HQ.out; omega)) 0
            rwa [show l.length - 16 = 0 by have := HQ.out; omega] at h)
          go_enter Try.func39, Try.ntmps39
          go_wp2_with fail
          refine (bcontains_any _ _ true _ HD.out).mono ?_
          rintro e w' ⟨rfl, b1⟩
          rw [HQ2.out]
          have HB2 := Lib.hid (keep2 b1 HB.out)
          clear b1
          go_wp2
          go_ret
          exact ⟨ret_bool HR.out.symm, HB2.out⟩
        · have hz : ¬ (c + 16 - 16 = 0) := by omega
          have HD := Lib.hid (show BosAt (w.alloc (.cells #[.int .i64 t, .slice (some ⟨b, off, none⟩) 16 (c + 16)] 28)) (.slice (some ⟨b, off + 16, none⟩) 0 c) (l.drop 16) from by
            have h := bos_cut HL.out (k := 16) (by have := HQ.out; omega) (some ⟨b, off + 16, none⟩) (fun _ => rfl) c
            rwa [show l.length - 16 = 0 by have := HQ.out; omega] at h)
          go_enter Try.func39, Try.ntmps39
          go_wp2_with fail
          refine (bcontains_any _ _ true _ HD.out).mono ?_
          rintro e w' ⟨rfl, b1⟩
          rw [HQ2.out]
          have HB2 := Lib.hid (keep2 b1 HB.out)
          clear b1
          go_wp2
          go_ret
          exact ⟨ret_bool HR.out.symm, HB2.out⟩
open Go.RowKit

def shv (l : List Bool) (d k j : Nat) : Bool := (j == 0) || (decide (d ≤ j ∧ j < k) && l.getD (j - d) false)
def shA (l : List Bool) (d k : Nat) : Array Value := ((List.range 16).map fun j => Value.bool (shv l d k j)).toArray
def shL (l : List Bool) (d : Nat) : List Bool := (List.range 16).map fun j => shv l d 16 j
theorem shA_size (l : List Bool) (d k : Nat) : (shA l d k).size = 16 := by simp [shA]
theorem shA_get {l : List Bool} {d k j : Nat} (hj : j < 16) : (shA l d k)[j]? = some (.bool (shv l d k j)) := by simp [shA, hj]
theorem shA_start (l : List Bool) (d : Nat) : shA l d d = #[.bool true, .bool false, .bool false, .bool false, .bool false, .bool false, .bool false, .bool false, .bool false, .bool false, .bool false, .bool false, .bool false, .bool false, .bool false, .bool false] := by
  have h : (fun j => Value.bool (shv l d d j)) = fun j => Value.bool (j == 0) := funext fun j => by
    unfold shv
    rw [show decide (d ≤ j ∧ j < d) = false by simp]
    simp
  unfold shA
  rw [h]
  rfl
theorem shA_set {l : List Bool} {d k : Nat} (h0 : 1 ≤ d) (h1 : d ≤ k) (h2 : k < 16) : (shA l d k).setIfInBounds k (.bool (l.getD (k - d) false)) = shA l d (k + 1) := by
  apply Array.ext_getElem?
  intro j
  rw [Array.getElem?_setIfInBounds, shA_size]
  by_cases hj : j < 16
  · rw [shA_get hj, shA_get hj]
    by_cases e : k = j
    · subst e
      have h3 : ¬ (k = 0) := by omega
      simp [shv, h1, h2, h3]
    · have h3 : (d ≤ j ∧ j < k + 1) ↔ (d ≤ j ∧ j < k) := by omega
      simp [shv, e, h3]
  · have h3 : ¬ (k = j) := by omega
    rw [if_neg h3, Array.getElem?_eq_none (by rw [shA_size]; omega), Array.getElem?_eq_none (by rw [shA_size]; omega)]
theorem shA_end {l : List Bool} {d k : Nat} (hk : 16 ≤ k) : shA l d k = shA l d 16 := by
  apply Array.ext_getElem?
  intro j
  by_cases hj : j < 16
  · rw [shA_get hj, shA_get hj]
    have h3 : (d ≤ j ∧ j < k) ↔ (d ≤ j ∧ j < 16) := by omega
    simp [shv, h3]
  · rw [Array.getElem?_eq_none (by rw [shA_size]; omega), Array.getElem?_eq_none (by rw [shA_size]; omega)]
theorem arr_store {w : World} {b : Nat} (h : Cs w b #[.bool false, .bool false, .bool false, .bool false, .bool false, .bool false, .bool false, .bool false, .bool false, .bool false, .bool false, .bool false, .bool false, .bool false, .bool false, .bool false]) (e0 e1 e2 e3 e4 e5 e6 e7 e8 e9 e10 e11 e12 e13 e14 e15 : Bool) : Cs ((((((((((((((((w.setCell ⟨b, 0, none⟩ (.bool e0)).setCell ⟨b, 1, none⟩ (.bool e1)).setCell ⟨b, 2, none⟩ (.bool e2)).setCell ⟨b, 3, none⟩ (.bool e3)).setCell ⟨b, 4, none⟩ (.bool e4)).setCell ⟨b, 5, none⟩ (.bool e5)).setCell ⟨b, 6, none⟩ (.bool e6)).setCell ⟨b, 7, none⟩ (.bool e7)).setCell ⟨b, 8, none⟩ (.bool e8)).setCell ⟨b, 9, none⟩ (.bool e9)).setCell ⟨b, 10, none⟩ (.bool e10)).setCell ⟨b, 11, none⟩ (.bool e11)).setCell ⟨b, 12, none⟩ (.bool e12)).setCell ⟨b, 13, none⟩ (.bool e13)).setCell ⟨b, 14, none⟩ (.bool e14)).setCell ⟨b, 15, none⟩ (.bool e15)) b #[.bool e0, .bool e1, .bool e2, .bool e3, .bool e4, .bool e5, .bool e6, .bool e7, .bool e8, .bool e9, .bool e10, .bool e11, .bool e12, .bool e13, .bool e14, .bool e15] := by
  have h0 := Cs.set h 0 (by simp) (.bool e0) (vs' := #[.bool e0, .bool false, .bool false, .bool false, .bool false, .bool false, .bool false, .bool false, .bool false, .bool false, .bool false, .bool false, .bool false, .bool false, .bool false, .bool false]) rfl
  have h1 := Cs.set h0 1 (by simp) (.bool e1) (vs' := #[.bool e0, .bool e1, .bool false, .bool false, .bool false, .bool false, .bool false, .bool false, .bool false, .bool false, .bool false, .bool false, .bool false, .bool false, .bool false, .bool false]) rfl
  have h2 := Cs.set h1 2 (by simp) (.bool e2) (vs' := #[.bool e0, .bool e1, .bool e2, .bool false, .bool false, .bool false, .bool false, .bool false, .bool false, .bool false, .bool false, .bool false, .bool false, .bool false, .bool false, .bool false]) rfl
  have h3 := Cs.set h2 3 (by simp) (.bool e3) (vs' := #[.bool e0, .bool e1, .bool e2, .bool e3, .bool false, .bool false, .bool false, .bool false, .bool false, .bool false, .bool false, .bool false, .bool false, .bool false, .bool false, .bool false]) rfl
  have h4 := Cs.set h3 4 (by simp) (.bool e4) (vs' := #[.bool e0, .bool e1, .bool e2, .bool e3, .bool e4, .bool false, .bool false, .bool false, .bool false, .bool false, .bool false, .bool false, .bool false, .bool false, .bool false, .bool false]) rfl
  have h5 := Cs.set h4 5 (by simp) (.bool e5) (vs' := #[.bool e0, .bool e1, .bool e2, .bool e3, .bool e4, .bool e5, .bool false, .bool false, .bool false, .bool false, .bool false, .bool false, .bool false, .bool false, .bool false, .bool false]) rfl
  have h6 := Cs.set h5 6 (by simp) (.bool e6) (vs' := #[.bool e0, .bool e1, .bool e2, .bool e3, .bool e4, .bool e5, .bool e6, .bool false, .bool false, .bool false, .bool false, .bool false, .bool false, .bool false, .bool false, .bool false]) rfl
  have h7 := Cs.set h6 7 (by simp) (.bool e7) (vs' := #[.bool e0, .bool e1, .bool e2, .bool e3, .bool e4, .bool e5, .bool e6, .bool e7, .bool false, .bool false, .bool false, .bool false, .bool false, .bool false, .bool false, .bool false]) rfl
  have h8 := Cs.set h7 8 (by simp) (.bool e8) (vs' := #[.bool e0, .bool e1, .bool e2, .bool e3, .bool e4, .bool e5, .bool e6, .bool e7, .bool e8, .bool false, .bool false, .bool false, .bool false, .bool false, .bool false, .bool false]) rfl
  have h9 := Cs.set h8 9 (by simp) (.bool e9) (vs' := #[.bool e0, .bool e1, .bool e2, .bool e3, .bool e4, .bool e5, .bool e6, .bool e7, .bool e8, .bool e9, .bool false, .bool false, .bool false, .bool false, .bool false, .bool false]) rfl
  have h10 := Cs.set h9 10 (by simp) (.bool e10) (vs' := #[.bool e0, .bool e1, .bool e2, .bool e3, .bool e4, .bool e5, .bool e6, .bool e7, .bool e8, .bool e9, .bool e10, .bool false, .bool false, .bool false, .bool false, .bool false]) rfl
  have h11 := Cs.set h10 11 (by simp) (.bool e11) (vs' := #[.bool e0, .bool e1, .bool e2, .bool e3, .bool e4, .bool e5, .bool e6, .bool e7, .bool e8, .bool e9, .bool e10, .bool e11, .bool false, .bool false, .bool false, .bool false]) rfl
  have h12 := Cs.set h11 12 (by simp) (.bool e12) (vs' := #[.bool e0, .bool e1, .bool e2, .bool e3, .bool e4, .bool e5, .bool e6, .bool e7, .bool e8, .bool e9, .bool e10, .bool e11, .bool e12, .bool false, .bool false, .bool false]) rfl
  have h13 := Cs.set h12 13 (by simp) (.bool e13) (vs' := #[.bool e0, .bool e1, .bool e2, .bool e3, .bool e4, .bool e5, .bool e6, .bool e7, .bool e8, .bool e9, .bool e10, .bool e11, .bool e12, .bool e13, .bool false, .bool false]) rfl
  have h14 := Cs.set h13 14 (by simp) (.bool e14) (vs' := #[.bool e0, .bool e1, .bool e2, .bool e3, .bool e4, .bool e5, .bool e6, .bool e7, .bool e8, .bool e9, .bool e10, .bool e11, .bool e12, .bool e13, .bool e14, .bool false]) rfl
  have h15 := Cs.set h14 15 (by simp) (.bool e15) (vs' := #[.bool e0, .bool e1, .bool e2, .bool e3, .bool e4, .bool e5, .bool e6, .bool e7, .bool e8, .bool e9, .bool e10, .bool e11, .bool e12, .bool e13, .bool e14, .bool e15]) rfl
  exact h15
theorem bel_store {w0 w : World} {b B : Nat} (h : Below B w0 w) (hb : B ≤ b) (e0 e1 e2 e3 e4 e5 e6 e7 e8 e9 e10 e11 e12 e13 e14 e15 : Bool) : Below B w0 ((((((((((((((((w.setCell ⟨b, 0, none⟩ (.bool e0)).setCell ⟨b, 1, none⟩ (.bool e1)).setCell ⟨b, 2, none⟩ (.bool e2)).setCell ⟨b, 3, none⟩ (.bool e3)).setCell ⟨b, 4, none⟩ (.bool e4)).setCell ⟨b, 5, none⟩ (.bool e5)).setCell ⟨b, 6, none⟩ (.bool e6)).setCell ⟨b, 7, none⟩ (.bool e7)).setCell ⟨b, 8, none⟩ (.bool e8)).setCell ⟨b, 9, none⟩ (.bool e9)).setCell ⟨b, 10, none⟩ (.bool e10)).setCell ⟨b, 11, none⟩ (.bool e11)).setCell ⟨b, 12, none⟩ (.bool e12)).setCell ⟨b, 13, none⟩ (.bool e13)).setCell ⟨b, 14, none⟩ (.bool e14)).setCell ⟨b, 15, none⟩ (.bool e15)) := by
  have h0 := Below.setCell h (p := ⟨b, 0, none⟩) hb (.bool e0)
  have h1 := Below.setCell h0 (p := ⟨b, 1, none⟩) hb (.bool e1)
  have h2 := Below.setCell h1 (p := ⟨b, 2, none⟩) hb (.bool e2)
  have h3 := Below.setCell h2 (p := ⟨b, 3, none⟩) hb (.bool e3)
  have h4 := Below.setCell h3 (p := ⟨b, 4, none⟩) hb (.bool e4)
  have h5 := Below.setCell h4 (p := ⟨b, 5, none⟩) hb (.bool e5)
  have h6 := Below.setCell h5 (p := ⟨b, 6, none⟩) hb (.bool e6)
  have h7 := Below.setCell h6 (p := ⟨b, 7, none⟩) hb (.bool e7)
  have h8 := Below.setCell h7 (p := ⟨b, 8, none⟩) hb (.bool e8)
  have h9 := Below.setCell h8 (p := ⟨b, 9, none⟩) hb (.bool e9)
  have h10 := Below.setCell h9 (p := ⟨b, 10, none⟩) hb (.bool e10)
  have h11 := Below.setCell h10 (p := ⟨b, 11, none⟩) hb (.bool e11)
  have h12 := Below.setCell h11 (p := ⟨b, 12, none⟩) hb (.bool e12)
  have h13 := Below.setCell h12 (p := ⟨b, 13, none⟩) hb (.bool e13)
  have h14 := Below.setCell h13 (p := ⟨b, 14, none⟩) hb (.bool e14)
  have h15 := Below.setCell h14 (p := ⟨b, 15, none⟩) hb (.bool e15)
  exact h15
set_option maxRecDepth 100000 in
set_option maxHeartbeats 4000000 in
theorem shifted_any (t : Int) (aa : Option Addr) (c : Nat) (l : List Bool) (d : Nat) (w : World) (h : BosAt w (.slice aa 16 c) l) (hl : l.length = 16) (hd : 1 ≤ d) (hd2 : d ≤ 1000001) :
    Calls Try.prog 40 #[.agg #[.int .i64 t, .slice aa 16 c], .int .i64 d] w fun e w' => e = .returned (.agg (shA l d 16)) ∧ Below w.heap.size w w' := by
  have HL0 := Lib.hid h
  obtain ⟨a, cap, he, hm, hc⟩ := h
  obtain ⟨rfl, -, rfl⟩ : aa = a ∧ 16 = l.length ∧ c = cap := by simpa using he
  obtain ⟨b, off, rfl, hx⟩ := hc (by intro e; rw [e] at hl; simp at hl)
  clear he hx hc hm
  have HQ := Lib.hid hl
  have HD := Lib.hid hd
  have HD2 := Lib.hid hd2
  clear hl hd hd2
  have HC1 := Lib.hid (Cs.new w w.heap.size #[.int .i64 t, .slice (some ⟨b, off, none⟩) 16 c] 28 rfl)
  have HB1 := Lib.hid (al w (.cells #[.int .i64 t, .slice (some ⟨b, off, none⟩) 16 c] 28))
  have HS1 := Lib.hid (show (w.alloc (.cells #[.int .i64 t, .slice (some ⟨b, off, none⟩) 16 c] 28)).heap.size = w.heap.size + 1 by simp)
  go_enter Try.func40, Try.ntmps40
  go_wp2_with fail
  have HZ2 := Lib.hid ((Cs.new (w.alloc (.cells #[.int .i64 t, .slice (some ⟨b, off, none⟩) 16 c] 28)) (w.heap.size + 1) #[.bool false, .bool false, .bool false, .bool false, .bool false, .bool false, .bool false, .bool false, .bool false, .bool false, .bool false, .bool false, .bool false, .bool false, .bool false, .bool false] 93 HS1.out.symm).alloc (.cells #[.bool true, .bool false, .bool false, .bool false, .bool false, .bool false, .bool false, .bool false, .bool false, .bool false, .bool false, .bool false, .bool false, .bool false, .bool false, .bool false] 93))
  have HF2 := Lib.hid (Cs.new ((w.alloc (.cells #[.int .i64 t, .slice (some ⟨b, off, none⟩) 16 c] 28)).alloc (.cells #[.bool false, .bool false, .bool false, .bool false, .bool false, .bool false, .bool false, .bool false, .bool false, .bool false, .bool false, .bool false, .bool false, .bool false, .bool false, .bool false] 93)) (w.heap.size + 1 + 1) #[.bool true, .bool false, .bool false, .bool false, .bool false, .bool false, .bool false, .bool false, .bool false, .bool false, .bool false, .bool false, .bool false, .bool false, .bool false, .bool false] 93 (by simp))
  have HC2 := Lib.hid ((HC1.out.alloc (.cells #[.bool false, .bool false, .bool false, .bool false, .bool false, .bool false, .bool false, .bool false, .bool false, .bool false, .bool false, .bool false, .bool false, .bool false, .bool false, .bool false] 93)).alloc (.cells #[.bool true, .bool false, .bool false, .bool false, .bool false, .bool false, .bool false, .bool false, .bool false, .bool false, .bool false, .bool false, .bool false, .bool false, .bool false, .bool false] 93))
  have HB2 := Lib.hid (HB1.out.alloc HB1.out.size (.cells #[.bool false, .bool false, .bool false, .bool false, .bool false, .bool false, .bool false, .bool false, .bool false, .bool false, .bool false, .bool false, .bool false, .bool false, .bool false, .bool false] 93))
  have HB3 := Lib.hid (HB2.out.alloc HB2.out.size (.cells #[.bool true, .bool false, .bool false, .bool false, .bool false, .bool false, .bool false, .bool false, .bool false, .bool false, .bool false, .bool false, .bool false, .bool false, .bool false, .bool false] 93))
  clear HB2 HC1 HB1 HS1
  go_loopw [6] (fun i wr => ∃ k : Nat, d ≤ k ∧ (k ≤ 16 ∨ k = d) ∧ i = .int .i64 k ∧ Hid (Cs wr (w.heap.size + 1 + 1) (shA l d k)) ∧ Hid (Cs wr (w.heap.size + 1) #[.bool false, .bool false, .bool false, .bool false, .bool false, .bool false, .bool false, .bool false, .bool false, .bool false, .bool false, .bool false, .bool false, .bool false, .bool false, .bool false]) ∧ Hid (Cs wr w.heap.size #[.int .i64 t, .slice (some ⟨b, off, none⟩) 16 c]) ∧ Hid (Below w.heap.size w wr)) (fun i _ => 16 - (intOf i).toNat)
  case atStart =>
    refine ⟨d, Nat.le_refl _, .inr rfl, rfl, ?_, HZ2, HC2, HB3⟩
    rw [shA_start]
    exact HF2
  case round =>
    obtain ⟨k, hk, hk2, rfl, HF, HZ, HC, HB⟩ := hrel
    by_cases hlt : k < 16
    · obtain ⟨a2, cap2, hva, -, hcs⟩ := HL0.out.step HB.out
      obtain ⟨rfl, -, rfl⟩ : some (⟨b, off, none⟩ : Addr) = a2 ∧ 16 = l.length ∧ c = cap2 := by simpa using hva
      obtain ⟨b', off', ha', hcs2⟩ := hcs (by intro e; have := HQ.out; rw [e] at this; simp at this)
      obtain ⟨rfl, rfl⟩ : b = b' ∧ off = off' := by simpa using ha'
      have hkl : k - d < l.length := by have := HQ.out; have := HD.out; omega
      have x0 := hcs2 (k - d) _ (bo_get hkl)
      have y0 := HF.out.c k (shA_get hlt)
      have y1 := HF.out.f k (by rw [shA_size]; exact hlt)
      have HF' := Lib.hid (Cs.set HF.out k (by rw [shA_size]; exact hlt) (.bool (l.getD (k - d) false)) (shA_set HD.out hk hlt))
      have HZ' := Lib.hid (Cs.other HZ.out (b := w.heap.size + 1 + 1) (by omega) k (.bool (l.getD (k - d) false)))
      have HC' := Lib.hid (Cs.other HC.out (b := w.heap.size + 1 + 1) (by omega) k (.bool (l.getD (k - d) false)))
      have HB' := Lib.hid (HB.out.setCell (p := ⟨w.heap.size + 1 + 1, k, none⟩) (by simp; omega) (.bool (l.getD (k - d) false)))
      have hs : wrap64 ((k : Int) - (d : Int)) = ((k - d : Nat) : Int) := by rw [IntWalk.wrap64_in _ (by have := HD2.out; omega)]; omega
      have hn : ((k - d : Nat) : Int).toNat = k - d := Int.toNat_natCast _
      have hp : 0 ≤ ((k - d : Nat) : Int) := by omega
      have hp2 : k - d < 16 := by omega
      have c0 := HC.out.c 0 rfl
      have c1 : _ = some (Value.slice (some ⟨b, off, none⟩) 16 c) := HC.out.c 1 rfl
      have HK := Lib.hid hk
      have HK2 := Lib.hid hk2
      clear hcs hcs2 hva ha' hkl hk hk2 HF HZ HC
      generalize l.getD (k - d) false = u at *
      generalize shv l d k k = u2 at *
      go_wp2_with fail
      go_roundw
      case rel => exact ⟨k + 1, by have := HK.out; omega, .inl (by omega), by go_num, HF', HZ', HC', HB'⟩
      case measure => simp [intOf]; omega
    · have HE := Lib.hid ((shA_end (l := l) (d := d) (show 16 ≤ k by omega)).symm)
      have hw : shA l d k = #[.bool (shv l d k 0), .bool (shv l d k 1), .bool (shv l d k 2), .bool (shv l d k 3), .bool (shv l d k 4), .bool (shv l d k 5), .bool (shv l d k 6), .bool (shv l d k 7), .bool (shv l d k 8), .bool (shv l d k 9), .bool (shv l d k 10), .bool (shv l d k 11), .bool (shv l d k 12), .bool (shv l d k 13), .bool (shv l d k 14), .bool (shv l d k 15)] := rfl
      obtain ⟨e0, e1, e2, e3, e4, e5, e6, e7, e8, e9, e10, e11, e12, e13, e14, e15, hes⟩ : ∃ e0 e1 e2 e3 e4 e5 e6 e7 e8 e9 e10 e11 e12 e13 e14 e15, shA l d k = #[.bool e0, .bool e1, .bool e2, .bool e3, .bool e4, .bool e5, .bool e6, .bool e7, .bool e8, .bool e9, .bool e10, .bool e11, .bool e12, .bool e13, .bool e14, .bool e15] := ⟨_, _, _, _, _, _, _, _, _, _, _, _, _, _, _, _, hw⟩
      have HR := Lib.hid (HE.out.trans hes)
      rw [hes] at HF
      clear hw hes HE
      have x0 := HF.out.c 0 (v := .bool e0) rfl
      have z0 := HZ.out.c 0 (v := .bool false) rfl
      have f0 := HZ.out.f 0 (by simp)
      have x1 := HF.out.c 1 (v := .bool e1) rfl
      have z1 := HZ.out.c 1 (v := .bool false) rfl
      have f1 := HZ.out.f 1 (by simp)
      have x2 := HF.out.c 2 (v := .bool e2) rfl
      have z2 := HZ.out.c 2 (v := .bool false) rfl
      have f2 := HZ.out.f 2 (by simp)
      have x3 := HF.out.c 3 (v := .bool e3) rfl
      have z3 := HZ.out.c 3 (v := .bool false) rfl
      have f3 := HZ.out.f 3 (by simp)
      have x4 := HF.out.c 4 (v := .bool e4) rfl
      have z4 := HZ.out.c 4 (v := .bool false) rfl
      have f4 := HZ.out.f 4 (by simp)
      have x5 := HF.out.c 5 (v := .bool e5) rfl
      have z5 := HZ.out.c 5 (v := .bool false) rfl
      have f5 := HZ.out.f 5 (by simp)
      have x6 := HF.out.c 6 (v := .bool e6) rfl
      have z6 := HZ.out.c 6 (v := .bool false) rfl
      have f6 := HZ.out.f 6 (by simp)
      have x7 := HF.out.c 7 (v := .bool e7) rfl
      have z7 := HZ.out.c 7 (v := .bool false) rfl
      have f7 := HZ.out.f 7 (by simp)
      have x8 := HF.out.c 8 (v := .bool e8) rfl
      have z8 := HZ.out.c 8 (v := .bool false) rfl
      have f8 := HZ.out.f 8 (by simp)
      have x9 := HF.out.c 9 (v := .bool e9) rfl
      have z9 := HZ.out.c 9 (v := .bool false) rfl
      have f9 := HZ.out.f 9 (by simp)
      have x10 := HF.out.c 10 (v := .bool e10) rfl
      have z10 := HZ.out.c 10 (v := .bool false) rfl
      have f10 := HZ.out.f 10 (by simp)
      have x11 := HF.out.c 11 (v := .bool e11) rfl
      have z11 := HZ.out.c 11 (v := .bool false) rfl
      have f11 := HZ.out.f 11 (by simp)
      have x12 := HF.out.c 12 (v := .bool e12) rfl
      have z12 := HZ.out.c 12 (v := .bool false) rfl
      have f12 := HZ.out.f 12 (by simp)
      have x13 := HF.out.c 13 (v := .bool e13) rfl
      have z13 := HZ.out.c 13 (v := .bool false) rfl
      have f13 := HZ.out.f 13 (by simp)
      have x14 := HF.out.c 14 (v := .bool e14) rfl
      have z14 := HZ.out.c 14 (v := .bool false) rfl
      have f14 := HZ.out.f 14 (by simp)
      have x15 := HF.out.c 15 (v := .bool e15) rfl
      have z15 := HZ.out.c 15 (v := .bool false) rfl
      have f15 := HZ.out.f 15 (by simp)
      clear HC
      go_wp2_with fail
      refine (fun (h : ∀ W : World, Cs W (w.heap.size + 1) #[.bool e0, .bool e1, .bool e2, .bool e3, .bool e4, .bool e5, .bool e6, .bool e7, .bool e8, .bool e9, .bool e10, .bool e11, .bool e12, .bool e13, .bool e14, .bool e15] → Below w.heap.size w W → bodyPost Try.prog Try.f40 _ Exit.ret _ W) => h _ (arr_store HZ.out e0 e1 e2 e3 e4 e5 e6 e7 e8 e9 e10 e11 e12 e13 e14 e15) (bel_store HB.out (Nat.le_succ _) e0 e1 e2 e3 e4 e5 e6 e7 e8 e9 e10 e11 e12 e13 e14 e15)) ?_
      clear HZ HB
      intro W hC hB
      have k0 := hC.c 0 (v := .bool e0) rfl
      have k1 := hC.c 1 (v := .bool e1) rfl
      have k2 := hC.c 2 (v := .bool e2) rfl
      have k3 := hC.c 3 (v := .bool e3) rfl
      have k4 := hC.c 4 (v := .bool e4) rfl
      have k5 := hC.c 5 (v := .bool e5) rfl
      have k6 := hC.c 6 (v := .bool e6) rfl
      have k7 := hC.c 7 (v := .bool e7) rfl
      have k8 := hC.c 8 (v := .bool e8) rfl
      have k9 := hC.c 9 (v := .bool e9) rfl
      have k10 := hC.c 10 (v := .bool e10) rfl
      have k11 := hC.c 11 (v := .bool e11) rfl
      have k12 := hC.c 12 (v := .bool e12) rfl
      have k13 := hC.c 13 (v := .bool e13) rfl
      have k14 := hC.c 14 (v := .bool e14) rfl
      have k15 := hC.c 15 (v := .bool e15) rfl
      exact bodyPost_ret (v := .agg #[.bool e0, .bool e1, .bool e2, .bool e3, .bool e4, .bool e5, .bool e6, .bool e7, .bool e8, .bool e9, .bool e10, .bool e11, .bool e12, .bool e13, .bool e14, .bool e15]) (by simp [results, Try.results40, go_sem, k0, k1, k2, k3, k4, k5, k6, k7, k8, k9, k10, k11, k12, k13, k14, k15]) rfl ⟨by rw [HR.out], hB⟩
end Go.Proofs.Ytnanndmpbecdiaa
