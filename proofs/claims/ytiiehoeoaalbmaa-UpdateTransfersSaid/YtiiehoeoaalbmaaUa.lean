/- Updates: small functions. -/
import Derived.Test.YtiiehoeoaalbmaaLh
import Derived.Deep.CutRange
import Derived.BigQuiet
namespace Go.Proofs.Ytiiehoeoaalbmaa
open Go.RowKit

def inB (a b x : Int) : Bool := decide (a ≤ x) && decide (x ≤ b)
theorem inB_iff {a b x : Int} : inB a b x = true ↔ a ≤ x ∧ x ≤ b := by unfold inB; rw [Bool.and_eq_true, decide_eq_true_eq, decide_eq_true_eq]
theorem inB_low {a b x : Int} (h : x < a) : inB a b x = false := by unfold inB; rw [decide_eq_false (by omega), Bool.false_and]
theorem inB_high {a b x : Int} (h : b < x) : inB a b x = false := by unfold inB; rw [decide_eq_false (show ¬ x ≤ b by omega), Bool.and_false]
theorem inB_in {a b x : Int} (h1 : ¬ x < a) (h2 : ¬ b < x) : inB a b x = true := inB_iff.2 ⟨by omega, by omega⟩
def wiB (a b : Int) (l : List Int) : Bool := l.all (inB a b)
theorem wi_one (a b x : Int) : wiB a b [x] = inB a b x := by simp [wiB]
theorem wi_two (a b x y : Int) : wiB a b [x, y] = (inB a b x && inB a b y) := by simp [wiB]
theorem wi_all {a b : Int} {l : List Int} (h : ∀ j, j < l.length → inB a b (l.getD j 0) = true) : wiB a b l = true := by
  unfold wiB
  rw [List.all_eq_true]
  intro x hx
  obtain ⟨j, hj, rfl⟩ := List.getElem_of_mem hx
  have := h j hj
  simpa [hj] using this
theorem wi_hit {a b : Int} {l : List Int} {k : Nat} (h : k < l.length) (hb : inB a b (l.getD k 0) = false) : wiB a b l = false := by
  unfold wiB
  rw [List.all_eq_false]
  exact ⟨l.getD k 0, by simp [h], by rw [hb]; exact Bool.false_ne_true⟩
set_option maxRecDepth 100000 in
set_option maxHeartbeats 2000000 in
theorem within_any (a b : Int) (v : Value) (l : List Int) (w : World) (h : IntsAt w v l) : Calls Try.prog 32 #[.int .i64 a, .int .i64 b, v] w fun e w' => e = .returned (.bool (wiB a b l)) ∧ w = w' := by
  obtain ⟨p, cap, rfl, hm, hc⟩ := h
  unfold maxLen at hm
  have HC := Lib.hid hc
  clear hc
  go_enter Try.func32, Try.ntmps32
  go_wp2_with fail
  go_loopw [11] (fun i wr => ∃ k : Nat, k ≤ l.length ∧ i = .int .i64 k ∧ Hid (∀ j, j < k → inB a b (l.getD j 0) = true) ∧ wr = w) (fun i _ => l.length - (intOf i).toNat)
  case atStart => exact ⟨0, by omega, rfl, Lib.hid (fun j h => absurd h (by omega)), rfl⟩
  case round =>
    obtain ⟨k, hk, rfl, HN, rfl⟩ := hrel
    by_cases hlt : k < l.length
    · obtain ⟨b1, off, rfl, hcs2⟩ := HC.out (by intro h; rw [h] at hlt; simp at hlt)
      have x0 := hcs2 k _ (getD_of hlt)
      clear hcs2
      have HF := Lib.hid (wi_hit (a := a) (b := b) hlt)
      have HN2 := Lib.hid (show inB a b (l.getD k 0) = true → ∀ j, j < k + 1 → inB a b (l.getD j 0) = true from fun hx j h => by
        by_cases e : j = k
        · subst e; exact hx
        · exact HN.out j (by omega))
      clear HN
      have t1 : (k : Int) < (l.length : Int) := by omega
      generalize l.getD k 0 = x at *
      by_cases h1 : x < a
      · have HB := Lib.hid (HF.out (inB_low h1))
        go_wp2
        go_ret
        exact ⟨ret_bool HB.out.symm, rfl⟩
      · by_cases h2 : b < x
        · have HB := Lib.hid (HF.out (inB_high h2))
          go_wp2
          go_ret
          exact ⟨ret_bool HB.out.symm, rfl⟩
        · have HB := Lib.hid (inB_in h1 h2)
          go_wp2
          go_roundw
          case rel => exact ⟨k + 1, hlt, by go_num, Lib.hid (HN2.out HB.out), trivial⟩
          case measure => simp [intOf]; omega
    · obtain rfl : k = l.length := by omega
      have HA := Lib.hid (wi_all HN.out)
      go_wp2
      go_ret
      exact ⟨ret_bool HA.out.symm, rfl⟩
theorem digs_any (v : Value) (l : List Int) (w : World) (h : IntsAt w v l) : Calls Try.prog 31 #[v] w fun e w' => e = .returned (.bool (wiB 0 2147483646 l)) ∧ w = w' := by
  have H := Lib.hid h
  clear h
  go_enter Try.func31, Try.ntmps31
  go_wp2_with fail
  refine (within_any 0 2147483646 v l _ H.out).mono ?_
  rintro e w' ⟨rfl, rfl⟩
  go_wp2
  go_ret
  exact ⟨rfl, rfl⟩
def daB (l : List Int) : Bool := wiB (-1000000000) 1000000000 l
theorem isData_any (v : Value) (l : List Int) (w : World) (h : IntsAt w v l) : Calls Try.prog 33 #[v] w fun e w' => e = .returned (.bool (daB l)) ∧ w = w' := by
  have H := Lib.hid h
  clear h
  go_enter Try.func33, Try.ntmps33
  go_wp2_with fail
  refine (within_any (-1000000000) 1000000000 v l _ H.out).mono ?_
  rintro e w' ⟨rfl, rfl⟩
  go_wp2
  go_ret
  exact ⟨rfl, rfl⟩
/-- A manifest. -/
structure Mf where
  v : Int
  c : Int
  s : Int
  r : Int
  t : Int
def Mf.nums (m : Mf) : List Int := [m.v, m.c, m.s, m.r]
def tgM (key : Int) (m : Mf) : Int := Dg (tgd key m.nums)
def mfB (m : Mf) : Bool := inB 1 1000000 m.v && (inB 1 64 m.c && (inB 1 32 m.s && (inB 0 2147483646 m.r && inB 0 2147483646 m.t)))
/-- What can be a piece's data. -/
def ftB (m : Mf) (i : Int) (l : List Int) : Bool := inB 0 (m.c - 1) i && (inB (if i = m.c - 1 then 1 else m.s) m.s (l.length : Int) && daB l)
theorem mfB_parts {m : Mf} (h : mfB m = true) : (1 ≤ m.v ∧ m.v ≤ 1000000) ∧ (1 ≤ m.c ∧ m.c ≤ 64) ∧ (1 ≤ m.s ∧ m.s ≤ 32) ∧ (0 ≤ m.r ∧ m.r ≤ 2147483646) ∧ (0 ≤ m.t ∧ m.t ≤ 2147483646) := by
  unfold mfB at h
  simp only [Bool.and_eq_true, inB_iff] at h
  exact h
set_option maxRecDepth 100000 in
set_option maxHeartbeats 8000000 in
theorem tag_m (key : Int) (m : Mf) (w : World) : Calls Try.prog 39 #[.int .i64 key, .agg #[.int .i64 m.v, .int .i64 m.c, .int .i64 m.s, .int .i64 m.r, .int .i64 m.t]] w fun e w' => e = .returned (.int .i64 (tgM key m)) ∧ Below w.heap.size w w' := by
  have H0 := Lib.hid (Below.refl w.heap.size w)
  have H1 := Lib.hid (keep2 (al w (.cells #[.int .i64 m.v, .int .i64 m.c, .int .i64 m.s, .int .i64 m.r, .int .i64 m.t] 24)) H0.out)
  clear H0
  have H2 := Lib.hid (Cs.new w (w.heap.size) #[.int .i64 m.v, .int .i64 m.c, .int .i64 m.s, .int .i64 m.r, .int .i64 m.t] 24 (by simp))
  go_enter Try.func39, Try.ntmps39
  have xm0 : (w.alloc (.cells #[.int .i64 m.v, .int .i64 m.c, .int .i64 m.s, .int .i64 m.r, .int .i64 m.t] 24)).cell? ⟨(w.heap.size), 0, none⟩ = some (.int .i64 m.v) := H2.out.c 0 rfl
  have xm1 : (w.alloc (.cells #[.int .i64 m.v, .int .i64 m.c, .int .i64 m.s, .int .i64 m.r, .int .i64 m.t] 24)).cell? ⟨(w.heap.size), 1, none⟩ = some (.int .i64 m.c) := H2.out.c 1 rfl
  have xm2 : (w.alloc (.cells #[.int .i64 m.v, .int .i64 m.c, .int .i64 m.s, .int .i64 m.r, .int .i64 m.t] 24)).cell? ⟨(w.heap.size), 2, none⟩ = some (.int .i64 m.s) := H2.out.c 2 rfl
  have xm3 : (w.alloc (.cells #[.int .i64 m.v, .int .i64 m.c, .int .i64 m.s, .int .i64 m.r, .int .i64 m.t] 24)).cell? ⟨(w.heap.size), 3, none⟩ = some (.int .i64 m.r) := H2.out.c 3 rfl
  have xm4 : (w.alloc (.cells #[.int .i64 m.v, .int .i64 m.c, .int .i64 m.s, .int .i64 m.r, .int .i64 m.t] 24)).cell? ⟨(w.heap.size), 4, none⟩ = some (.int .i64 m.t) := H2.out.c 4 rfl
  have zm : (w.heap.size) < (w.alloc (.cells #[.int .i64 m.v, .int .i64 m.c, .int .i64 m.s, .int .i64 m.r, .int .i64 m.t] 24)).heap.size := H2.out.2.2
  go_wp2_with fail
  have H4 := Lib.hid (H2.out.step (al (w.alloc (.cells #[.int .i64 m.v, .int .i64 m.c, .int .i64 m.s, .int .i64 m.r, .int .i64 m.t] 24)) (.cells #[.int .i64 m.v, .int .i64 m.c, .int .i64 m.s, .int .i64 m.r] 3)))
  clear H2
  have H5 := Lib.hid (keep2 (al (w.alloc (.cells #[.int .i64 m.v, .int .i64 m.c, .int .i64 m.s, .int .i64 m.r, .int .i64 m.t] 24)) (.cells #[.int .i64 m.v, .int .i64 m.c, .int .i64 m.s, .int .i64 m.r] 3)) H1.out)
  clear H1
  have H6 := Lib.hid (Cs.new (w.alloc (.cells #[.int .i64 m.v, .int .i64 m.c, .int .i64 m.s, .int .i64 m.r, .int .i64 m.t] 24)) (w.heap.size + 1) #[.int .i64 m.v, .int .i64 m.c, .int .i64 m.s, .int .i64 m.r] 3 (by simp))
  refine (tagA_any key _ [m.v, m.c, m.s, m.r] _ (ints_lit (w.alloc (.cells #[.int .i64 m.v, .int .i64 m.c, .int .i64 m.s, .int .i64 m.r, .int .i64 m.t] 24)) [m.v, m.c, m.s, m.r] #[.int .i64 m.v, .int .i64 m.c, .int .i64 m.s, .int .i64 m.r] 3 rfl (by simp) 4 rfl (w.heap.size + 1) (by simp)) (by simp)).mono ?_
  rintro e u1 ⟨rfl, b1⟩
  clear xm0 xm1 xm2 xm3 xm4 zm
  have H7 := Lib.hid (H4.out.step b1)
  clear H4
  have H8 := Lib.hid (H6.out.step b1)
  clear H6
  have H9 := Lib.hid (keep2 b1 H5.out)
  clear H5
  clear b1
  go_wp2
  go_ret
  exact ⟨rfl, H9.out⟩
set_option maxRecDepth 100000 in
set_option maxHeartbeats 8000000 in
theorem manif_0 (m : Mf) (w : World) (hk0 : inB 1 1000000 m.v = false) : Calls Try.prog 48 #[.agg #[.int .i64 m.v, .int .i64 m.c, .int .i64 m.s, .int .i64 m.r, .int .i64 m.t]] w fun e w' => e = .returned (.bool (mfB m)) ∧ Below w.heap.size w w' := by
  have HK0 := Lib.hid hk0
  have HR := Lib.hid (show mfB m = false by unfold mfB; rw [hk0]; rfl)
  clear hk0
  have H0 := Lib.hid (Below.refl w.heap.size w)
  have H1 := Lib.hid (keep2 (al w (.cells #[.int .i64 m.v, .int .i64 m.c, .int .i64 m.s, .int .i64 m.r, .int .i64 m.t] 24)) H0.out)
  clear H0
  have H2 := Lib.hid (Cs.new w (w.heap.size) #[.int .i64 m.v, .int .i64 m.c, .int .i64 m.s, .int .i64 m.r, .int .i64 m.t] 24 (by simp))
  go_enter Try.func48, Try.ntmps48
  have xm0 : (w.alloc (.cells #[.int .i64 m.v, .int .i64 m.c, .int .i64 m.s, .int .i64 m.r, .int .i64 m.t] 24)).cell? ⟨(w.heap.size), 0, none⟩ = some (.int .i64 m.v) := H2.out.c 0 rfl
  have xm1 : (w.alloc (.cells #[.int .i64 m.v, .int .i64 m.c, .int .i64 m.s, .int .i64 m.r, .int .i64 m.t] 24)).cell? ⟨(w.heap.size), 1, none⟩ = some (.int .i64 m.c) := H2.out.c 1 rfl
  have xm2 : (w.alloc (.cells #[.int .i64 m.v, .int .i64 m.c, .int .i64 m.s, .int .i64 m.r, .int .i64 m.t] 24)).cell? ⟨(w.heap.size), 2, none⟩ = some (.int .i64 m.s) := H2.out.c 2 rfl
  have xm3 : (w.alloc (.cells #[.int .i64 m.v, .int .i64 m.c, .int .i64 m.s, .int .i64 m.r, .int .i64 m.t] 24)).cell? ⟨(w.heap.size), 3, none⟩ = some (.int .i64 m.r) := H2.out.c 3 rfl
  have xm4 : (w.alloc (.cells #[.int .i64 m.v, .int .i64 m.c, .int .i64 m.s, .int .i64 m.r, .int .i64 m.t] 24)).cell? ⟨(w.heap.size), 4, none⟩ = some (.int .i64 m.t) := H2.out.c 4 rfl
  have zm : (w.heap.size) < (w.alloc (.cells #[.int .i64 m.v, .int .i64 m.c, .int .i64 m.s, .int .i64 m.r, .int .i64 m.t] 24)).heap.size := H2.out.2.2
  go_wp2_with fail
  have H4 := Lib.hid (H2.out.step (al (w.alloc (.cells #[.int .i64 m.v, .int .i64 m.c, .int .i64 m.s, .int .i64 m.r, .int .i64 m.t] 24)) (.cells #[.int .i64 m.v] 3)))
  clear H2
  have H5 := Lib.hid (keep2 (al (w.alloc (.cells #[.int .i64 m.v, .int .i64 m.c, .int .i64 m.s, .int .i64 m.r, .int .i64 m.t] 24)) (.cells #[.int .i64 m.v] 3)) H1.out)
  clear H1
  have H6 := Lib.hid (Cs.new (w.alloc (.cells #[.int .i64 m.v, .int .i64 m.c, .int .i64 m.s, .int .i64 m.r, .int .i64 m.t] 24)) (w.heap.size + 1) #[.int .i64 m.v] 3 (by simp))
  refine (within_any 1 1000000 _ [m.v] _ (ints_lit (w.alloc (.cells #[.int .i64 m.v, .int .i64 m.c, .int .i64 m.s, .int .i64 m.r, .int .i64 m.t] 24)) [m.v] #[.int .i64 m.v] 3 rfl (by simp) 1 rfl (w.heap.size + 1) (by simp))).mono ?_
  rintro e wq7 ⟨rfl, rfl⟩
  rw [wi_one, HK0.out]
  clear xm0 xm1 xm2 xm3 xm4 zm
  have xm0 : ((w.alloc (.cells #[.int .i64 m.v, .int .i64 m.c, .int .i64 m.s, .int .i64 m.r, .int .i64 m.t] 24)).alloc (.cells #[.int .i64 m.v] 3)).cell? ⟨(w.heap.size), 0, none⟩ = some (.int .i64 m.v) := H4.out.c 0 rfl
  have xm1 : ((w.alloc (.cells #[.int .i64 m.v, .int .i64 m.c, .int .i64 m.s, .int .i64 m.r, .int .i64 m.t] 24)).alloc (.cells #[.int .i64 m.v] 3)).cell? ⟨(w.heap.size), 1, none⟩ = some (.int .i64 m.c) := H4.out.c 1 rfl
  have xm2 : ((w.alloc (.cells #[.int .i64 m.v, .int .i64 m.c, .int .i64 m.s, .int .i64 m.r, .int .i64 m.t] 24)).alloc (.cells #[.int .i64 m.v] 3)).cell? ⟨(w.heap.size), 2, none⟩ = some (.int .i64 m.s) := H4.out.c 2 rfl
  have xm3 : ((w.alloc (.cells #[.int .i64 m.v, .int .i64 m.c, .int .i64 m.s, .int .i64 m.r, .int .i64 m.t] 24)).alloc (.cells #[.int .i64 m.v] 3)).cell? ⟨(w.heap.size), 3, none⟩ = some (.int .i64 m.r) := H4.out.c 3 rfl
  have xm4 : ((w.alloc (.cells #[.int .i64 m.v, .int .i64 m.c, .int .i64 m.s, .int .i64 m.r, .int .i64 m.t] 24)).alloc (.cells #[.int .i64 m.v] 3)).cell? ⟨(w.heap.size), 4, none⟩ = some (.int .i64 m.t) := H4.out.c 4 rfl
  have zm : (w.heap.size) < ((w.alloc (.cells #[.int .i64 m.v, .int .i64 m.c, .int .i64 m.s, .int .i64 m.r, .int .i64 m.t] 24)).alloc (.cells #[.int .i64 m.v] 3)).heap.size := H4.out.2.2
  go_wp2
  go_ret
  exact ⟨ret_bool HR.out.symm, H5.out⟩
set_option maxRecDepth 100000 in
set_option maxHeartbeats 8000000 in
theorem manif_1 (m : Mf) (w : World) (hk0 : inB 1 1000000 m.v = true) (hk1 : inB 1 64 m.c = false) : Calls Try.prog 48 #[.agg #[.int .i64 m.v, .int .i64 m.c, .int .i64 m.s, .int .i64 m.r, .int .i64 m.t]] w fun e w' => e = .returned (.bool (mfB m)) ∧ Below w.heap.size w w' := by
  have HK0 := Lib.hid hk0
  have HK1 := Lib.hid hk1
  have HR := Lib.hid (show mfB m = false by unfold mfB; rw [hk0, hk1]; simp)
  clear hk0 hk1
  have H0 := Lib.hid (Below.refl w.heap.size w)
  have H1 := Lib.hid (keep2 (al w (.cells #[.int .i64 m.v, .int .i64 m.c, .int .i64 m.s, .int .i64 m.r, .int .i64 m.t] 24)) H0.out)
  clear H0
  have H2 := Lib.hid (Cs.new w (w.heap.size) #[.int .i64 m.v, .int .i64 m.c, .int .i64 m.s, .int .i64 m.r, .int .i64 m.t] 24 (by simp))
  go_enter Try.func48, Try.ntmps48
  have xm0 : (w.alloc (.cells #[.int .i64 m.v, .int .i64 m.c, .int .i64 m.s, .int .i64 m.r, .int .i64 m.t] 24)).cell? ⟨(w.heap.size), 0, none⟩ = some (.int .i64 m.v) := H2.out.c 0 rfl
  have xm1 : (w.alloc (.cells #[.int .i64 m.v, .int .i64 m.c, .int .i64 m.s, .int .i64 m.r, .int .i64 m.t] 24)).cell? ⟨(w.heap.size), 1, none⟩ = some (.int .i64 m.c) := H2.out.c 1 rfl
  have xm2 : (w.alloc (.cells #[.int .i64 m.v, .int .i64 m.c, .int .i64 m.s, .int .i64 m.r, .int .i64 m.t] 24)).cell? ⟨(w.heap.size), 2, none⟩ = some (.int .i64 m.s) := H2.out.c 2 rfl
  have xm3 : (w.alloc (.cells #[.int .i64 m.v, .int .i64 m.c, .int .i64 m.s, .int .i64 m.r, .int .i64 m.t] 24)).cell? ⟨(w.heap.size), 3, none⟩ = some (.int .i64 m.r) := H2.out.c 3 rfl
  have xm4 : (w.alloc (.cells #[.int .i64 m.v, .int .i64 m.c, .int .i64 m.s, .int .i64 m.r, .int .i64 m.t] 24)).cell? ⟨(w.heap.size), 4, none⟩ = some (.int .i64 m.t) := H2.out.c 4 rfl
  have zm : (w.heap.size) < (w.alloc (.cells #[.int .i64 m.v, .int .i64 m.c, .int .i64 m.s, .int .i64 m.r, .int .i64 m.t] 24)).heap.size := H2.out.2.2
  go_wp2_with fail
  have H4 := Lib.hid (H2.out.step (al (w.alloc (.cells #[.int .i64 m.v, .int .i64 m.c, .int .i64 m.s, .int .i64 m.r, .int .i64 m.t] 24)) (.cells #[.int .i64 m.v] 3)))
  clear H2
  have H5 := Lib.hid (keep2 (al (w.alloc (.cells #[.int .i64 m.v, .int .i64 m.c, .int .i64 m.s, .int .i64 m.r, .int .i64 m.t] 24)) (.cells #[.int .i64 m.v] 3)) H1.out)
  clear H1
  have H6 := Lib.hid (Cs.new (w.alloc (.cells #[.int .i64 m.v, .int .i64 m.c, .int .i64 m.s, .int .i64 m.r, .int .i64 m.t] 24)) (w.heap.size + 1) #[.int .i64 m.v] 3 (by simp))
  refine (within_any 1 1000000 _ [m.v] _ (ints_lit (w.alloc (.cells #[.int .i64 m.v, .int .i64 m.c, .int .i64 m.s, .int .i64 m.r, .int .i64 m.t] 24)) [m.v] #[.int .i64 m.v] 3 rfl (by simp) 1 rfl (w.heap.size + 1) (by simp))).mono ?_
  rintro e wq7 ⟨rfl, rfl⟩
  rw [wi_one, HK0.out]
  clear xm0 xm1 xm2 xm3 xm4 zm
  have xm0 : ((w.alloc (.cells #[.int .i64 m.v, .int .i64 m.c, .int .i64 m.s, .int .i64 m.r, .int .i64 m.t] 24)).alloc (.cells #[.int .i64 m.v] 3)).cell? ⟨(w.heap.size), 0, none⟩ = some (.int .i64 m.v) := H4.out.c 0 rfl
  have xm1 : ((w.alloc (.cells #[.int .i64 m.v, .int .i64 m.c, .int .i64 m.s, .int .i64 m.r, .int .i64 m.t] 24)).alloc (.cells #[.int .i64 m.v] 3)).cell? ⟨(w.heap.size), 1, none⟩ = some (.int .i64 m.c) := H4.out.c 1 rfl
  have xm2 : ((w.alloc (.cells #[.int .i64 m.v, .int .i64 m.c, .int .i64 m.s, .int .i64 m.r, .int .i64 m.t] 24)).alloc (.cells #[.int .i64 m.v] 3)).cell? ⟨(w.heap.size), 2, none⟩ = some (.int .i64 m.s) := H4.out.c 2 rfl
  have xm3 : ((w.alloc (.cells #[.int .i64 m.v, .int .i64 m.c, .int .i64 m.s, .int .i64 m.r, .int .i64 m.t] 24)).alloc (.cells #[.int .i64 m.v] 3)).cell? ⟨(w.heap.size), 3, none⟩ = some (.int .i64 m.r) := H4.out.c 3 rfl
  have xm4 : ((w.alloc (.cells #[.int .i64 m.v, .int .i64 m.c, .int .i64 m.s, .int .i64 m.r, .int .i64 m.t] 24)).alloc (.cells #[.int .i64 m.v] 3)).cell? ⟨(w.heap.size), 4, none⟩ = some (.int .i64 m.t) := H4.out.c 4 rfl
  have zm : (w.heap.size) < ((w.alloc (.cells #[.int .i64 m.v, .int .i64 m.c, .int .i64 m.s, .int .i64 m.r, .int .i64 m.t] 24)).alloc (.cells #[.int .i64 m.v] 3)).heap.size := H4.out.2.2
  go_wp2_with fail
  have H9 := Lib.hid (H4.out.step (al ((w.alloc (.cells #[.int .i64 m.v, .int .i64 m.c, .int .i64 m.s, .int .i64 m.r, .int .i64 m.t] 24)).alloc (.cells #[.int .i64 m.v] 3)) (.cells #[.int .i64 m.c] 3)))
  clear H4
  have H10 := Lib.hid (H6.out.step (al ((w.alloc (.cells #[.int .i64 m.v, .int .i64 m.c, .int .i64 m.s, .int .i64 m.r, .int .i64 m.t] 24)).alloc (.cells #[.int .i64 m.v] 3)) (.cells #[.int .i64 m.c] 3)))
  clear H6
  have H11 := Lib.hid (keep2 (al ((w.alloc (.cells #[.int .i64 m.v, .int .i64 m.c, .int .i64 m.s, .int .i64 m.r, .int .i64 m.t] 24)).alloc (.cells #[.int .i64 m.v] 3)) (.cells #[.int .i64 m.c] 3)) H5.out)
  clear H5
  have H12 := Lib.hid (Cs.new ((w.alloc (.cells #[.int .i64 m.v, .int .i64 m.c, .int .i64 m.s, .int .i64 m.r, .int .i64 m.t] 24)).alloc (.cells #[.int .i64 m.v] 3)) (w.heap.size + 1 + 1) #[.int .i64 m.c] 3 (by simp))
  refine (within_any 1 64 _ [m.c] _ (ints_lit ((w.alloc (.cells #[.int .i64 m.v, .int .i64 m.c, .int .i64 m.s, .int .i64 m.r, .int .i64 m.t] 24)).alloc (.cells #[.int .i64 m.v] 3)) [m.c] #[.int .i64 m.c] 3 rfl (by simp) 1 rfl (w.heap.size + 1 + 1) (by simp))).mono ?_
  rintro e wq13 ⟨rfl, rfl⟩
  rw [wi_one, HK1.out]
  clear xm0 xm1 xm2 xm3 xm4 zm
  have xm0 : (((w.alloc (.cells #[.int .i64 m.v, .int .i64 m.c, .int .i64 m.s, .int .i64 m.r, .int .i64 m.t] 24)).alloc (.cells #[.int .i64 m.v] 3)).alloc (.cells #[.int .i64 m.c] 3)).cell? ⟨(w.heap.size), 0, none⟩ = some (.int .i64 m.v) := H9.out.c 0 rfl
  have xm1 : (((w.alloc (.cells #[.int .i64 m.v, .int .i64 m.c, .int .i64 m.s, .int .i64 m.r, .int .i64 m.t] 24)).alloc (.cells #[.int .i64 m.v] 3)).alloc (.cells #[.int .i64 m.c] 3)).cell? ⟨(w.heap.size), 1, none⟩ = some (.int .i64 m.c) := H9.out.c 1 rfl
  have xm2 : (((w.alloc (.cells #[.int .i64 m.v, .int .i64 m.c, .int .i64 m.s, .int .i64 m.r, .int .i64 m.t] 24)).alloc (.cells #[.int .i64 m.v] 3)).alloc (.cells #[.int .i64 m.c] 3)).cell? ⟨(w.heap.size), 2, none⟩ = some (.int .i64 m.s) := H9.out.c 2 rfl
  have xm3 : (((w.alloc (.cells #[.int .i64 m.v, .int .i64 m.c, .int .i64 m.s, .int .i64 m.r, .int .i64 m.t] 24)).alloc (.cells #[.int .i64 m.v] 3)).alloc (.cells #[.int .i64 m.c] 3)).cell? ⟨(w.heap.size), 3, none⟩ = some (.int .i64 m.r) := H9.out.c 3 rfl
  have xm4 : (((w.alloc (.cells #[.int .i64 m.v, .int .i64 m.c, .int .i64 m.s, .int .i64 m.r, .int .i64 m.t] 24)).alloc (.cells #[.int .i64 m.v] 3)).alloc (.cells #[.int .i64 m.c] 3)).cell? ⟨(w.heap.size), 4, none⟩ = some (.int .i64 m.t) := H9.out.c 4 rfl
  have zm : (w.heap.size) < (((w.alloc (.cells #[.int .i64 m.v, .int .i64 m.c, .int .i64 m.s, .int .i64 m.r, .int .i64 m.t] 24)).alloc (.cells #[.int .i64 m.v] 3)).alloc (.cells #[.int .i64 m.c] 3)).heap.size := H9.out.2.2
  go_wp2
  go_ret
  exact ⟨ret_bool HR.out.symm, H11.out⟩
set_option maxRecDepth 100000 in
set_option maxHeartbeats 8000000 in
theorem manif_2 (m : Mf) (w : World) (hk0 : inB 1 1000000 m.v = true) (hk1 : inB 1 64 m.c = true) (hk2 : inB 1 32 m.s = false) : Calls Try.prog 48 #[.agg #[.int .i64 m.v, .int .i64 m.c, .int .i64 m.s, .int .i64 m.r, .int .i64 m.t]] w fun e w' => e = .returned (.bool (mfB m)) ∧ Below w.heap.size w w' := by
  have HK0 := Lib.hid hk0
  have HK1 := Lib.hid hk1
  have HK2 := Lib.hid hk2
  have HR := Lib.hid (show mfB m = false by unfold mfB; rw [hk0, hk1, hk2]; simp)
  clear hk0 hk1 hk2
  have H0 := Lib.hid (Below.refl w.heap.size w)
  have H1 := Lib.hid (keep2 (al w (.cells #[.int .i64 m.v, .int .i64 m.c, .int .i64 m.s, .int .i64 m.r, .int .i64 m.t] 24)) H0.out)
  clear H0
  have H2 := Lib.hid (Cs.new w (w.heap.size) #[.int .i64 m.v, .int .i64 m.c, .int .i64 m.s, .int .i64 m.r, .int .i64 m.t] 24 (by simp))
  go_enter Try.func48, Try.ntmps48
  have xm0 : (w.alloc (.cells #[.int .i64 m.v, .int .i64 m.c, .int .i64 m.s, .int .i64 m.r, .int .i64 m.t] 24)).cell? ⟨(w.heap.size), 0, none⟩ = some (.int .i64 m.v) := H2.out.c 0 rfl
  have xm1 : (w.alloc (.cells #[.int .i64 m.v, .int .i64 m.c, .int .i64 m.s, .int .i64 m.r, .int .i64 m.t] 24)).cell? ⟨(w.heap.size), 1, none⟩ = some (.int .i64 m.c) := H2.out.c 1 rfl
  have xm2 : (w.alloc (.cells #[.int .i64 m.v, .int .i64 m.c, .int .i64 m.s, .int .i64 m.r, .int .i64 m.t] 24)).cell? ⟨(w.heap.size), 2, none⟩ = some (.int .i64 m.s) := H2.out.c 2 rfl
  have xm3 : (w.alloc (.cells #[.int .i64 m.v, .int .i64 m.c, .int .i64 m.s, .int .i64 m.r, .int .i64 m.t] 24)).cell? ⟨(w.heap.size), 3, none⟩ = some (.int .i64 m.r) := H2.out.c 3 rfl
  have xm4 : (w.alloc (.cells #[.int .i64 m.v, .int .i64 m.c, .int .i64 m.s, .int .i64 m.r, .int .i64 m.t] 24)).cell? ⟨(w.heap.size), 4, none⟩ = some (.int .i64 m.t) := H2.out.c 4 rfl
  have zm : (w.heap.size) < (w.alloc (.cells #[.int .i64 m.v, .int .i64 m.c, .int .i64 m.s, .int .i64 m.r, .int .i64 m.t] 24)).heap.size := H2.out.2.2
  go_wp2_with fail
  have H4 := Lib.hid (H2.out.step (al (w.alloc (.cells #[.int .i64 m.v, .int .i64 m.c, .int .i64 m.s, .int .i64 m.r, .int .i64 m.t] 24)) (.cells #[.int .i64 m.v] 3)))
  clear H2
  have H5 := Lib.hid (keep2 (al (w.alloc (.cells #[.int .i64 m.v, .int .i64 m.c, .int .i64 m.s, .int .i64 m.r, .int .i64 m.t] 24)) (.cells #[.int .i64 m.v] 3)) H1.out)
  clear H1
  have H6 := Lib.hid (Cs.new (w.alloc (.cells #[.int .i64 m.v, .int .i64 m.c, .int .i64 m.s, .int .i64 m.r, .int .i64 m.t] 24)) (w.heap.size + 1) #[.int .i64 m.v] 3 (by simp))
  refine (within_any 1 1000000 _ [m.v] _ (ints_lit (w.alloc (.cells #[.int .i64 m.v, .int .i64 m.c, .int .i64 m.s, .int .i64 m.r, .int .i64 m.t] 24)) [m.v] #[.int .i64 m.v] 3 rfl (by simp) 1 rfl (w.heap.size + 1) (by simp))).mono ?_
  rintro e wq7 ⟨rfl, rfl⟩
  rw [wi_one, HK0.out]
  clear xm0 xm1 xm2 xm3 xm4 zm
  have xm0 : ((w.alloc (.cells #[.int .i64 m.v, .int .i64 m.c, .int .i64 m.s, .int .i64 m.r, .int .i64 m.t] 24)).alloc (.cells #[.int .i64 m.v] 3)).cell? ⟨(w.heap.size), 0, none⟩ = some (.int .i64 m.v) := H4.out.c 0 rfl
  have xm1 : ((w.alloc (.cells #[.int .i64 m.v, .int .i64 m.c, .int .i64 m.s, .int .i64 m.r, .int .i64 m.t] 24)).alloc (.cells #[.int .i64 m.v] 3)).cell? ⟨(w.heap.size), 1, none⟩ = some (.int .i64 m.c) := H4.out.c 1 rfl
  have xm2 : ((w.alloc (.cells #[.int .i64 m.v, .int .i64 m.c, .int .i64 m.s, .int .i64 m.r, .int .i64 m.t] 24)).alloc (.cells #[.int .i64 m.v] 3)).cell? ⟨(w.heap.size), 2, none⟩ = some (.int .i64 m.s) := H4.out.c 2 rfl
  have xm3 : ((w.alloc (.cells #[.int .i64 m.v, .int .i64 m.c, .int .i64 m.s, .int .i64 m.r, .int .i64 m.t] 24)).alloc (.cells #[.int .i64 m.v] 3)).cell? ⟨(w.heap.size), 3, none⟩ = some (.int .i64 m.r) := H4.out.c 3 rfl
  have xm4 : ((w.alloc (.cells #[.int .i64 m.v, .int .i64 m.c, .int .i64 m.s, .int .i64 m.r, .int .i64 m.t] 24)).alloc (.cells #[.int .i64 m.v] 3)).cell? ⟨(w.heap.size), 4, none⟩ = some (.int .i64 m.t) := H4.out.c 4 rfl
  have zm : (w.heap.size) < ((w.alloc (.cells #[.int .i64 m.v, .int .i64 m.c, .int .i64 m.s, .int .i64 m.r, .int .i64 m.t] 24)).alloc (.cells #[.int .i64 m.v] 3)).heap.size := H4.out.2.2
  go_wp2_with fail
  have H9 := Lib.hid (H4.out.step (al ((w.alloc (.cells #[.int .i64 m.v, .int .i64 m.c, .int .i64 m.s, .int .i64 m.r, .int .i64 m.t] 24)).alloc (.cells #[.int .i64 m.v] 3)) (.cells #[.int .i64 m.c] 3)))
  clear H4
  have H10 := Lib.hid (H6.out.step (al ((w.alloc (.cells #[.int .i64 m.v, .int .i64 m.c, .int .i64 m.s, .int .i64 m.r, .int .i64 m.t] 24)).alloc (.cells #[.int .i64 m.v] 3)) (.cells #[.int .i64 m.c] 3)))
  clear H6
  have H11 := Lib.hid (keep2 (al ((w.alloc (.cells #[.int .i64 m.v, .int .i64 m.c, .int .i64 m.s, .int .i64 m.r, .int .i64 m.t] 24)).alloc (.cells #[.int .i64 m.v] 3)) (.cells #[.int .i64 m.c] 3)) H5.out)
  clear H5
  have H12 := Lib.hid (Cs.new ((w.alloc (.cells #[.int .i64 m.v, .int .i64 m.c, .int .i64 m.s, .int .i64 m.r, .int .i64 m.t] 24)).alloc (.cells #[.int .i64 m.v] 3)) (w.heap.size + 1 + 1) #[.int .i64 m.c] 3 (by simp))
  refine (within_any 1 64 _ [m.c] _ (ints_lit ((w.alloc (.cells #[.int .i64 m.v, .int .i64 m.c, .int .i64 m.s, .int .i64 m.r, .int .i64 m.t] 24)).alloc (.cells #[.int .i64 m.v] 3)) [m.c] #[.int .i64 m.c] 3 rfl (by simp) 1 rfl (w.heap.size + 1 + 1) (by simp))).mono ?_
  rintro e wq13 ⟨rfl, rfl⟩
  rw [wi_one, HK1.out]
  clear xm0 xm1 xm2 xm3 xm4 zm
  have xm0 : (((w.alloc (.cells #[.int .i64 m.v, .int .i64 m.c, .int .i64 m.s, .int .i64 m.r, .int .i64 m.t] 24)).alloc (.cells #[.int .i64 m.v] 3)).alloc (.cells #[.int .i64 m.c] 3)).cell? ⟨(w.heap.size), 0, none⟩ = some (.int .i64 m.v) := H9.out.c 0 rfl
  have xm1 : (((w.alloc (.cells #[.int .i64 m.v, .int .i64 m.c, .int .i64 m.s, .int .i64 m.r, .int .i64 m.t] 24)).alloc (.cells #[.int .i64 m.v] 3)).alloc (.cells #[.int .i64 m.c] 3)).cell? ⟨(w.heap.size), 1, none⟩ = some (.int .i64 m.c) := H9.out.c 1 rfl
  have xm2 : (((w.alloc (.cells #[.int .i64 m.v, .int .i64 m.c, .int .i64 m.s, .int .i64 m.r, .int .i64 m.t] 24)).alloc (.cells #[.int .i64 m.v] 3)).alloc (.cells #[.int .i64 m.c] 3)).cell? ⟨(w.heap.size), 2, none⟩ = some (.int .i64 m.s) := H9.out.c 2 rfl
  have xm3 : (((w.alloc (.cells #[.int .i64 m.v, .int .i64 m.c, .int .i64 m.s, .int .i64 m.r, .int .i64 m.t] 24)).alloc (.cells #[.int .i64 m.v] 3)).alloc (.cells #[.int .i64 m.c] 3)).cell? ⟨(w.heap.size), 3, none⟩ = some (.int .i64 m.r) := H9.out.c 3 rfl
  have xm4 : (((w.alloc (.cells #[.int .i64 m.v, .int .i64 m.c, .int .i64 m.s, .int .i64 m.r, .int .i64 m.t] 24)).alloc (.cells #[.int .i64 m.v] 3)).alloc (.cells #[.int .i64 m.c] 3)).cell? ⟨(w.heap.size), 4, none⟩ = some (.int .i64 m.t) := H9.out.c 4 rfl
  have zm : (w.heap.size) < (((w.alloc (.cells #[.int .i64 m.v, .int .i64 m.c, .int .i64 m.s, .int .i64 m.r, .int .i64 m.t] 24)).alloc (.cells #[.int .i64 m.v] 3)).alloc (.cells #[.int .i64 m.c] 3)).heap.size := H9.out.2.2
  go_wp2_with fail
  have H15 := Lib.hid (H9.out.step (al (((w.alloc (.cells #[.int .i64 m.v, .int .i64 m.c, .int .i64 m.s, .int .i64 m.r, .int .i64 m.t] 24)).alloc (.cells #[.int .i64 m.v] 3)).alloc (.cells #[.int .i64 m.c] 3)) (.cells #[.int .i64 m.s] 3)))
  clear H9
  have H16 := Lib.hid (H10.out.step (al (((w.alloc (.cells #[.int .i64 m.v, .int .i64 m.c, .int .i64 m.s, .int .i64 m.r, .int .i64 m.t] 24)).alloc (.cells #[.int .i64 m.v] 3)).alloc (.cells #[.int .i64 m.c] 3)) (.cells #[.int .i64 m.s] 3)))
  clear H10
  have H17 := Lib.hid (H12.out.step (al (((w.alloc (.cells #[.int .i64 m.v, .int .i64 m.c, .int .i64 m.s, .int .i64 m.r, .int .i64 m.t] 24)).alloc (.cells #[.int .i64 m.v] 3)).alloc (.cells #[.int .i64 m.c] 3)) (.cells #[.int .i64 m.s] 3)))
  clear H12
  have H18 := Lib.hid (keep2 (al (((w.alloc (.cells #[.int .i64 m.v, .int .i64 m.c, .int .i64 m.s, .int .i64 m.r, .int .i64 m.t] 24)).alloc (.cells #[.int .i64 m.v] 3)).alloc (.cells #[.int .i64 m.c] 3)) (.cells #[.int .i64 m.s] 3)) H11.out)
  clear H11
  have H19 := Lib.hid (Cs.new (((w.alloc (.cells #[.int .i64 m.v, .int .i64 m.c, .int .i64 m.s, .int .i64 m.r, .int .i64 m.t] 24)).alloc (.cells #[.int .i64 m.v] 3)).alloc (.cells #[.int .i64 m.c] 3)) (w.heap.size + 1 + 1 + 1) #[.int .i64 m.s] 3 (by simp))
  refine (within_any 1 32 _ [m.s] _ (ints_lit (((w.alloc (.cells #[.int .i64 m.v, .int .i64 m.c, .int .i64 m.s, .int .i64 m.r, .int .i64 m.t] 24)).alloc (.cells #[.int .i64 m.v] 3)).alloc (.cells #[.int .i64 m.c] 3)) [m.s] #[.int .i64 m.s] 3 rfl (by simp) 1 rfl (w.heap.size + 1 + 1 + 1) (by simp))).mono ?_
  rintro e wq20 ⟨rfl, rfl⟩
  rw [wi_one, HK2.out]
  clear xm0 xm1 xm2 xm3 xm4 zm
  have xm0 : ((((w.alloc (.cells #[.int .i64 m.v, .int .i64 m.c, .int .i64 m.s, .int .i64 m.r, .int .i64 m.t] 24)).alloc (.cells #[.int .i64 m.v] 3)).alloc (.cells #[.int .i64 m.c] 3)).alloc (.cells #[.int .i64 m.s] 3)).cell? ⟨(w.heap.size), 0, none⟩ = some (.int .i64 m.v) := H15.out.c 0 rfl
  have xm1 : ((((w.alloc (.cells #[.int .i64 m.v, .int .i64 m.c, .int .i64 m.s, .int .i64 m.r, .int .i64 m.t] 24)).alloc (.cells #[.int .i64 m.v] 3)).alloc (.cells #[.int .i64 m.c] 3)).alloc (.cells #[.int .i64 m.s] 3)).cell? ⟨(w.heap.size), 1, none⟩ = some (.int .i64 m.c) := H15.out.c 1 rfl
  have xm2 : ((((w.alloc (.cells #[.int .i64 m.v, .int .i64 m.c, .int .i64 m.s, .int .i64 m.r, .int .i64 m.t] 24)).alloc (.cells #[.int .i64 m.v] 3)).alloc (.cells #[.int .i64 m.c] 3)).alloc (.cells #[.int .i64 m.s] 3)).cell? ⟨(w.heap.size), 2, none⟩ = some (.int .i64 m.s) := H15.out.c 2 rfl
  have xm3 : ((((w.alloc (.cells #[.int .i64 m.v, .int .i64 m.c, .int .i64 m.s, .int .i64 m.r, .int .i64 m.t] 24)).alloc (.cells #[.int .i64 m.v] 3)).alloc (.cells #[.int .i64 m.c] 3)).alloc (.cells #[.int .i64 m.s] 3)).cell? ⟨(w.heap.size), 3, none⟩ = some (.int .i64 m.r) := H15.out.c 3 rfl
  have xm4 : ((((w.alloc (.cells #[.int .i64 m.v, .int .i64 m.c, .int .i64 m.s, .int .i64 m.r, .int .i64 m.t] 24)).alloc (.cells #[.int .i64 m.v] 3)).alloc (.cells #[.int .i64 m.c] 3)).alloc (.cells #[.int .i64 m.s] 3)).cell? ⟨(w.heap.size), 4, none⟩ = some (.int .i64 m.t) := H15.out.c 4 rfl
  have zm : (w.heap.size) < ((((w.alloc (.cells #[.int .i64 m.v, .int .i64 m.c, .int .i64 m.s, .int .i64 m.r, .int .i64 m.t] 24)).alloc (.cells #[.int .i64 m.v] 3)).alloc (.cells #[.int .i64 m.c] 3)).alloc (.cells #[.int .i64 m.s] 3)).heap.size := H15.out.2.2
  go_wp2
  go_ret
  exact ⟨ret_bool HR.out.symm, H18.out⟩
set_option maxRecDepth 100000 in
set_option maxHeartbeats 8000000 in
theorem manif_3 (m : Mf) (b : Bool) (w : World) (hk0 : inB 1 1000000 m.v = true) (hk1 : inB 1 64 m.c = true) (hk2 : inB 1 32 m.s = true) (hk3 : (inB 0 2147483646 m.r && inB 0 2147483646 m.t) = b) : Calls Try.prog 48 #[.agg #[.int .i64 m.v, .int .i64 m.c, .int .i64 m.s, .int .i64 m.r, .int .i64 m.t]] w fun e w' => e = .returned (.bool (mfB m)) ∧ Below w.heap.size w w' := by
  have HK0 := Lib.hid hk0
  have HK1 := Lib.hid hk1
  have HK2 := Lib.hid hk2
  have HK3 := Lib.hid hk3
  have HR := Lib.hid (show mfB m = b by unfold mfB; rw [hk0, hk1, hk2, hk3]; simp)
  clear hk0 hk1 hk2 hk3
  have H0 := Lib.hid (Below.refl w.heap.size w)
  have H1 := Lib.hid (keep2 (al w (.cells #[.int .i64 m.v, .int .i64 m.c, .int .i64 m.s, .int .i64 m.r, .int .i64 m.t] 24)) H0.out)
  clear H0
  have H2 := Lib.hid (Cs.new w (w.heap.size) #[.int .i64 m.v, .int .i64 m.c, .int .i64 m.s, .int .i64 m.r, .int .i64 m.t] 24 (by simp))
  go_enter Try.func48, Try.ntmps48
  have xm0 : (w.alloc (.cells #[.int .i64 m.v, .int .i64 m.c, .int .i64 m.s, .int .i64 m.r, .int .i64 m.t] 24)).cell? ⟨(w.heap.size), 0, none⟩ = some (.int .i64 m.v) := H2.out.c 0 rfl
  have xm1 : (w.alloc (.cells #[.int .i64 m.v, .int .i64 m.c, .int .i64 m.s, .int .i64 m.r, .int .i64 m.t] 24)).cell? ⟨(w.heap.size), 1, none⟩ = some (.int .i64 m.c) := H2.out.c 1 rfl
  have xm2 : (w.alloc (.cells #[.int .i64 m.v, .int .i64 m.c, .int .i64 m.s, .int .i64 m.r, .int .i64 m.t] 24)).cell? ⟨(w.heap.size), 2, none⟩ = some (.int .i64 m.s) := H2.out.c 2 rfl
  have xm3 : (w.alloc (.cells #[.int .i64 m.v, .int .i64 m.c, .int .i64 m.s, .int .i64 m.r, .int .i64 m.t] 24)).cell? ⟨(w.heap.size), 3, none⟩ = some (.int .i64 m.r) := H2.out.c 3 rfl
  have xm4 : (w.alloc (.cells #[.int .i64 m.v, .int .i64 m.c, .int .i64 m.s, .int .i64 m.r, .int .i64 m.t] 24)).cell? ⟨(w.heap.size), 4, none⟩ = some (.int .i64 m.t) := H2.out.c 4 rfl
  have zm : (w.heap.size) < (w.alloc (.cells #[.int .i64 m.v, .int .i64 m.c, .int .i64 m.s, .int .i64 m.r, .int .i64 m.t] 24)).heap.size := H2.out.2.2
  go_wp2_with fail
  have H4 := Lib.hid (H2.out.step (al (w.alloc (.cells #[.int .i64 m.v, .int .i64 m.c, .int .i64 m.s, .int .i64 m.r, .int .i64 m.t] 24)) (.cells #[.int .i64 m.v] 3)))
  clear H2
  have H5 := Lib.hid (keep2 (al (w.alloc (.cells #[.int .i64 m.v, .int .i64 m.c, .int .i64 m.s, .int .i64 m.r, .int .i64 m.t] 24)) (.cells #[.int .i64 m.v] 3)) H1.out)
  clear H1
  have H6 := Lib.hid (Cs.new (w.alloc (.cells #[.int .i64 m.v, .int .i64 m.c, .int .i64 m.s, .int .i64 m.r, .int .i64 m.t] 24)) (w.heap.size + 1) #[.int .i64 m.v] 3 (by simp))
  refine (within_any 1 1000000 _ [m.v] _ (ints_lit (w.alloc (.cells #[.int .i64 m.v, .int .i64 m.c, .int .i64 m.s, .int .i64 m.r, .int .i64 m.t] 24)) [m.v] #[.int .i64 m.v] 3 rfl (by simp) 1 rfl (w.heap.size + 1) (by simp))).mono ?_
  rintro e wq7 ⟨rfl, rfl⟩
  rw [wi_one, HK0.out]
  clear xm0 xm1 xm2 xm3 xm4 zm
  have xm0 : ((w.alloc (.cells #[.int .i64 m.v, .int .i64 m.c, .int .i64 m.s, .int .i64 m.r, .int .i64 m.t] 24)).alloc (.cells #[.int .i64 m.v] 3)).cell? ⟨(w.heap.size), 0, none⟩ = some (.int .i64 m.v) := H4.out.c 0 rfl
  have xm1 : ((w.alloc (.cells #[.int .i64 m.v, .int .i64 m.c, .int .i64 m.s, .int .i64 m.r, .int .i64 m.t] 24)).alloc (.cells #[.int .i64 m.v] 3)).cell? ⟨(w.heap.size), 1, none⟩ = some (.int .i64 m.c) := H4.out.c 1 rfl
  have xm2 : ((w.alloc (.cells #[.int .i64 m.v, .int .i64 m.c, .int .i64 m.s, .int .i64 m.r, .int .i64 m.t] 24)).alloc (.cells #[.int .i64 m.v] 3)).cell? ⟨(w.heap.size), 2, none⟩ = some (.int .i64 m.s) := H4.out.c 2 rfl
  have xm3 : ((w.alloc (.cells #[.int .i64 m.v, .int .i64 m.c, .int .i64 m.s, .int .i64 m.r, .int .i64 m.t] 24)).alloc (.cells #[.int .i64 m.v] 3)).cell? ⟨(w.heap.size), 3, none⟩ = some (.int .i64 m.r) := H4.out.c 3 rfl
  have xm4 : ((w.alloc (.cells #[.int .i64 m.v, .int .i64 m.c, .int .i64 m.s, .int .i64 m.r, .int .i64 m.t] 24)).alloc (.cells #[.int .i64 m.v] 3)).cell? ⟨(w.heap.size), 4, none⟩ = some (.int .i64 m.t) := H4.out.c 4 rfl
  have zm : (w.heap.size) < ((w.alloc (.cells #[.int .i64 m.v, .int .i64 m.c, .int .i64 m.s, .int .i64 m.r, .int .i64 m.t] 24)).alloc (.cells #[.int .i64 m.v] 3)).heap.size := H4.out.2.2
  go_wp2_with fail
  have H9 := Lib.hid (H4.out.step (al ((w.alloc (.cells #[.int .i64 m.v, .int .i64 m.c, .int .i64 m.s, .int .i64 m.r, .int .i64 m.t] 24)).alloc (.cells #[.int .i64 m.v] 3)) (.cells #[.int .i64 m.c] 3)))
  clear H4
  have H10 := Lib.hid (H6.out.step (al ((w.alloc (.cells #[.int .i64 m.v, .int .i64 m.c, .int .i64 m.s, .int .i64 m.r, .int .i64 m.t] 24)).alloc (.cells #[.int .i64 m.v] 3)) (.cells #[.int .i64 m.c] 3)))
  clear H6
  have H11 := Lib.hid (keep2 (al ((w.alloc (.cells #[.int .i64 m.v, .int .i64 m.c, .int .i64 m.s, .int .i64 m.r, .int .i64 m.t] 24)).alloc (.cells #[.int .i64 m.v] 3)) (.cells #[.int .i64 m.c] 3)) H5.out)
  clear H5
  have H12 := Lib.hid (Cs.new ((w.alloc (.cells #[.int .i64 m.v, .int .i64 m.c, .int .i64 m.s, .int .i64 m.r, .int .i64 m.t] 24)).alloc (.cells #[.int .i64 m.v] 3)) (w.heap.size + 1 + 1) #[.int .i64 m.c] 3 (by simp))
  refine (within_any 1 64 _ [m.c] _ (ints_lit ((w.alloc (.cells #[.int .i64 m.v, .int .i64 m.c, .int .i64 m.s, .int .i64 m.r, .int .i64 m.t] 24)).alloc (.cells #[.int .i64 m.v] 3)) [m.c] #[.int .i64 m.c] 3 rfl (by simp) 1 rfl (w.heap.size + 1 + 1) (by simp))).mono ?_
  rintro e wq13 ⟨rfl, rfl⟩
  rw [wi_one, HK1.out]
  clear xm0 xm1 xm2 xm3 xm4 zm
  have xm0 : (((w.alloc (.cells #[.int .i64 m.v, .int .i64 m.c, .int .i64 m.s, .int .i64 m.r, .int .i64 m.t] 24)).alloc (.cells #[.int .i64 m.v] 3)).alloc (.cells #[.int .i64 m.c] 3)).cell? ⟨(w.heap.size), 0, none⟩ = some (.int .i64 m.v) := H9.out.c 0 rfl
  have xm1 : (((w.alloc (.cells #[.int .i64 m.v, .int .i64 m.c, .int .i64 m.s, .int .i64 m.r, .int .i64 m.t] 24)).alloc (.cells #[.int .i64 m.v] 3)).alloc (.cells #[.int .i64 m.c] 3)).cell? ⟨(w.heap.size), 1, none⟩ = some (.int .i64 m.c) := H9.out.c 1 rfl
  have xm2 : (((w.alloc (.cells #[.int .i64 m.v, .int .i64 m.c, .int .i64 m.s, .int .i64 m.r, .int .i64 m.t] 24)).alloc (.cells #[.int .i64 m.v] 3)).alloc (.cells #[.int .i64 m.c] 3)).cell? ⟨(w.heap.size), 2, none⟩ = some (.int .i64 m.s) := H9.out.c 2 rfl
  have xm3 : (((w.alloc (.cells #[.int .i64 m.v, .int .i64 m.c, .int .i64 m.s, .int .i64 m.r, .int .i64 m.t] 24)).alloc (.cells #[.int .i64 m.v] 3)).alloc (.cells #[.int .i64 m.c] 3)).cell? ⟨(w.heap.size), 3, none⟩ = some (.int .i64 m.r) := H9.out.c 3 rfl
  have xm4 : (((w.alloc (.cells #[.int .i64 m.v, .int .i64 m.c, .int .i64 m.s, .int .i64 m.r, .int .i64 m.t] 24)).alloc (.cells #[.int .i64 m.v] 3)).alloc (.cells #[.int .i64 m.c] 3)).cell? ⟨(w.heap.size), 4, none⟩ = some (.int .i64 m.t) := H9.out.c 4 rfl
  have zm : (w.heap.size) < (((w.alloc (.cells #[.int .i64 m.v, .int .i64 m.c, .int .i64 m.s, .int .i64 m.r, .int .i64 m.t] 24)).alloc (.cells #[.int .i64 m.v] 3)).alloc (.cells #[.int .i64 m.c] 3)).heap.size := H9.out.2.2
  go_wp2_with fail
  have H15 := Lib.hid (H9.out.step (al (((w.alloc (.cells #[.int .i64 m.v, .int .i64 m.c, .int .i64 m.s, .int .i64 m.r, .int .i64 m.t] 24)).alloc (.cells #[.int .i64 m.v] 3)).alloc (.cells #[.int .i64 m.c] 3)) (.cells #[.int .i64 m.s] 3)))
  clear H9
  have H16 := Lib.hid (H10.out.step (al (((w.alloc (.cells #[.int .i64 m.v, .int .i64 m.c, .int .i64 m.s, .int .i64 m.r, .int .i64 m.t] 24)).alloc (.cells #[.int .i64 m.v] 3)).alloc (.cells #[.int .i64 m.c] 3)) (.cells #[.int .i64 m.s] 3)))
  clear H10
  have H17 := Lib.hid (H12.out.step (al (((w.alloc (.cells #[.int .i64 m.v, .int .i64 m.c, .int .i64 m.s, .int .i64 m.r, .int .i64 m.t] 24)).alloc (.cells #[.int .i64 m.v] 3)).alloc (.cells #[.int .i64 m.c] 3)) (.cells #[.int .i64 m.s] 3)))
  clear H12
  have H18 := Lib.hid (keep2 (al (((w.alloc (.cells #[.int .i64 m.v, .int .i64 m.c, .int .i64 m.s, .int .i64 m.r, .int .i64 m.t] 24)).alloc (.cells #[.int .i64 m.v] 3)).alloc (.cells #[.int .i64 m.c] 3)) (.cells #[.int .i64 m.s] 3)) H11.out)
  clear H11
  have H19 := Lib.hid (Cs.new (((w.alloc (.cells #[.int .i64 m.v, .int .i64 m.c, .int .i64 m.s, .int .i64 m.r, .int .i64 m.t] 24)).alloc (.cells #[.int .i64 m.v] 3)).alloc (.cells #[.int .i64 m.c] 3)) (w.heap.size + 1 + 1 + 1) #[.int .i64 m.s] 3 (by simp))
  refine (within_any 1 32 _ [m.s] _ (ints_lit (((w.alloc (.cells #[.int .i64 m.v, .int .i64 m.c, .int .i64 m.s, .int .i64 m.r, .int .i64 m.t] 24)).alloc (.cells #[.int .i64 m.v] 3)).alloc (.cells #[.int .i64 m.c] 3)) [m.s] #[.int .i64 m.s] 3 rfl (by simp) 1 rfl (w.heap.size + 1 + 1 + 1) (by simp))).mono ?_
  rintro e wq20 ⟨rfl, rfl⟩
  rw [wi_one, HK2.out]
  clear xm0 xm1 xm2 xm3 xm4 zm
  have xm0 : ((((w.alloc (.cells #[.int .i64 m.v, .int .i64 m.c, .int .i64 m.s, .int .i64 m.r, .int .i64 m.t] 24)).alloc (.cells #[.int .i64 m.v] 3)).alloc (.cells #[.int .i64 m.c] 3)).alloc (.cells #[.int .i64 m.s] 3)).cell? ⟨(w.heap.size), 0, none⟩ = some (.int .i64 m.v) := H15.out.c 0 rfl
  have xm1 : ((((w.alloc (.cells #[.int .i64 m.v, .int .i64 m.c, .int .i64 m.s, .int .i64 m.r, .int .i64 m.t] 24)).alloc (.cells #[.int .i64 m.v] 3)).alloc (.cells #[.int .i64 m.c] 3)).alloc (.cells #[.int .i64 m.s] 3)).cell? ⟨(w.heap.size), 1, none⟩ = some (.int .i64 m.c) := H15.out.c 1 rfl
  have xm2 : ((((w.alloc (.cells #[.int .i64 m.v, .int .i64 m.c, .int .i64 m.s, .int .i64 m.r, .int .i64 m.t] 24)).alloc (.cells #[.int .i64 m.v] 3)).alloc (.cells #[.int .i64 m.c] 3)).alloc (.cells #[.int .i64 m.s] 3)).cell? ⟨(w.heap.size), 2, none⟩ = some (.int .i64 m.s) := H15.out.c 2 rfl
  have xm3 : ((((w.alloc (.cells #[.int .i64 m.v, .int .i64 m.c, .int .i64 m.s, .int .i64 m.r, .int .i64 m.t] 24)).alloc (.cells #[.int .i64 m.v] 3)).alloc (.cells #[.int .i64 m.c] 3)).alloc (.cells #[.int .i64 m.s] 3)).cell? ⟨(w.heap.size), 3, none⟩ = some (.int .i64 m.r) := H15.out.c 3 rfl
  have xm4 : ((((w.alloc (.cells #[.int .i64 m.v, .int .i64 m.c, .int .i64 m.s, .int .i64 m.r, .int .i64 m.t] 24)).alloc (.cells #[.int .i64 m.v] 3)).alloc (.cells #[.int .i64 m.c] 3)).alloc (.cells #[.int .i64 m.s] 3)).cell? ⟨(w.heap.size), 4, none⟩ = some (.int .i64 m.t) := H15.out.c 4 rfl
  have zm : (w.heap.size) < ((((w.alloc (.cells #[.int .i64 m.v, .int .i64 m.c, .int .i64 m.s, .int .i64 m.r, .int .i64 m.t] 24)).alloc (.cells #[.int .i64 m.v] 3)).alloc (.cells #[.int .i64 m.c] 3)).alloc (.cells #[.int .i64 m.s] 3)).heap.size := H15.out.2.2
  go_wp2_with fail
  have H22 := Lib.hid (H15.out.step (al ((((w.alloc (.cells #[.int .i64 m.v, .int .i64 m.c, .int .i64 m.s, .int .i64 m.r, .int .i64 m.t] 24)).alloc (.cells #[.int .i64 m.v] 3)).alloc (.cells #[.int .i64 m.c] 3)).alloc (.cells #[.int .i64 m.s] 3)) (.cells #[.int .i64 m.r, .int .i64 m.t] 3)))
  clear H15
  have H23 := Lib.hid (H16.out.step (al ((((w.alloc (.cells #[.int .i64 m.v, .int .i64 m.c, .int .i64 m.s, .int .i64 m.r, .int .i64 m.t] 24)).alloc (.cells #[.int .i64 m.v] 3)).alloc (.cells #[.int .i64 m.c] 3)).alloc (.cells #[.int .i64 m.s] 3)) (.cells #[.int .i64 m.r, .int .i64 m.t] 3)))
  clear H16
  have H24 := Lib.hid (H17.out.step (al ((((w.alloc (.cells #[.int .i64 m.v, .int .i64 m.c, .int .i64 m.s, .int .i64 m.r, .int .i64 m.t] 24)).alloc (.cells #[.int .i64 m.v] 3)).alloc (.cells #[.int .i64 m.c] 3)).alloc (.cells #[.int .i64 m.s] 3)) (.cells #[.int .i64 m.r, .int .i64 m.t] 3)))
  clear H17
  have H25 := Lib.hid (H19.out.step (al ((((w.alloc (.cells #[.int .i64 m.v, .int .i64 m.c, .int .i64 m.s, .int .i64 m.r, .int .i64 m.t] 24)).alloc (.cells #[.int .i64 m.v] 3)).alloc (.cells #[.int .i64 m.c] 3)).alloc (.cells #[.int .i64 m.s] 3)) (.cells #[.int .i64 m.r, .int .i64 m.t] 3)))
  clear H19
  have H26 := Lib.hid (keep2 (al ((((w.alloc (.cells #[.int .i64 m.v, .int .i64 m.c, .int .i64 m.s, .int .i64 m.r, .int .i64 m.t] 24)).alloc (.cells #[.int .i64 m.v] 3)).alloc (.cells #[.int .i64 m.c] 3)).alloc (.cells #[.int .i64 m.s] 3)) (.cells #[.int .i64 m.r, .int .i64 m.t] 3)) H18.out)
  clear H18
  have H27 := Lib.hid (Cs.new ((((w.alloc (.cells #[.int .i64 m.v, .int .i64 m.c, .int .i64 m.s, .int .i64 m.r, .int .i64 m.t] 24)).alloc (.cells #[.int .i64 m.v] 3)).alloc (.cells #[.int .i64 m.c] 3)).alloc (.cells #[.int .i64 m.s] 3)) (w.heap.size + 1 + 1 + 1 + 1) #[.int .i64 m.r, .int .i64 m.t] 3 (by simp))
  refine (digs_any _ [m.r, m.t] _ (ints_lit ((((w.alloc (.cells #[.int .i64 m.v, .int .i64 m.c, .int .i64 m.s, .int .i64 m.r, .int .i64 m.t] 24)).alloc (.cells #[.int .i64 m.v] 3)).alloc (.cells #[.int .i64 m.c] 3)).alloc (.cells #[.int .i64 m.s] 3)) [m.r, m.t] #[.int .i64 m.r, .int .i64 m.t] 3 rfl (by simp) 2 rfl (w.heap.size + 1 + 1 + 1 + 1) (by simp))).mono ?_
  rintro e wq28 ⟨rfl, rfl⟩
  rw [wi_two, HK3.out]
  go_wp2
  go_ret
  exact ⟨ret_bool HR.out.symm, H26.out⟩
set_option maxRecDepth 100000 in
set_option maxHeartbeats 8000000 in
theorem manif_any (m : Mf) (w : World) : Calls Try.prog 48 #[.agg #[.int .i64 m.v, .int .i64 m.c, .int .i64 m.s, .int .i64 m.r, .int .i64 m.t]] w fun e w' => e = .returned (.bool (mfB m)) ∧ Below w.heap.size w w' := by
  cases h0 : inB 1 1000000 m.v
  · exact manif_0 m w h0
  · cases h1 : inB 1 64 m.c
    · exact manif_1 m w h0 h1
    · cases h2 : inB 1 32 m.s
      · exact manif_2 m w h0 h1 h2
      · exact manif_3 m _ w h0 h1 h2 rfl
set_option maxRecDepth 100000 in
set_option maxHeartbeats 8000000 in
theorem fit_y0 (m : Mf) (v : Value) (l : List Int) (w : World) (h : IntsAt w v l) (hm : mfB m = true) (hk0 : inB 0 (m.c - 1) (m.c - 1) = false) : Calls Try.prog 52 #[.agg #[.int .i64 m.v, .int .i64 m.c, .int .i64 m.s, .int .i64 m.r, .int .i64 m.t], .int .i64 (m.c - 1), v] w fun e w' => e = .returned (.bool (ftB m (m.c - 1) l)) ∧ Below w.heap.size w w' := by
  have HK0 := Lib.hid hk0
  have HR := Lib.hid (show ftB m (m.c - 1) l = false by unfold ftB; rw [if_pos rfl, hk0]; rfl)
  clear hk0
  have HI := Lib.hid h
  have H0 := Lib.hid (Below.refl w.heap.size w)
  have H1 := Lib.hid (keep2 (al w (.cells #[.int .i64 m.v, .int .i64 m.c, .int .i64 m.s, .int .i64 m.r, .int .i64 m.t] 24)) H0.out)
  clear H0
  have H2 := Lib.hid (Cs.new w (w.heap.size) #[.int .i64 m.v, .int .i64 m.c, .int .i64 m.s, .int .i64 m.r, .int .i64 m.t] 24 (by simp))
  obtain ⟨⟨-, -⟩, ⟨c1, c9⟩, ⟨s1, s9⟩, -, -⟩ := mfB_parts hm
  clear hm
  obtain ⟨p, cap, rfl, hl, -⟩ := h
  unfold maxLen at hl
  have t1 : wrap64 (m.c - 1) = m.c - 1 := IntWalk.wrap64_in _ (by omega)
  go_enter Try.func52, Try.ntmps52
  have xm0 : (w.alloc (.cells #[.int .i64 m.v, .int .i64 m.c, .int .i64 m.s, .int .i64 m.r, .int .i64 m.t] 24)).cell? ⟨(w.heap.size), 0, none⟩ = some (.int .i64 m.v) := H2.out.c 0 rfl
  have xm1 : (w.alloc (.cells #[.int .i64 m.v, .int .i64 m.c, .int .i64 m.s, .int .i64 m.r, .int .i64 m.t] 24)).cell? ⟨(w.heap.size), 1, none⟩ = some (.int .i64 m.c) := H2.out.c 1 rfl
  have xm2 : (w.alloc (.cells #[.int .i64 m.v, .int .i64 m.c, .int .i64 m.s, .int .i64 m.r, .int .i64 m.t] 24)).cell? ⟨(w.heap.size), 2, none⟩ = some (.int .i64 m.s) := H2.out.c 2 rfl
  have xm3 : (w.alloc (.cells #[.int .i64 m.v, .int .i64 m.c, .int .i64 m.s, .int .i64 m.r, .int .i64 m.t] 24)).cell? ⟨(w.heap.size), 3, none⟩ = some (.int .i64 m.r) := H2.out.c 3 rfl
  have xm4 : (w.alloc (.cells #[.int .i64 m.v, .int .i64 m.c, .int .i64 m.s, .int .i64 m.r, .int .i64 m.t] 24)).cell? ⟨(w.heap.size), 4, none⟩ = some (.int .i64 m.t) := H2.out.c 4 rfl
  have zm : (w.heap.size) < (w.alloc (.cells #[.int .i64 m.v, .int .i64 m.c, .int .i64 m.s, .int .i64 m.r, .int .i64 m.t] 24)).heap.size := H2.out.2.2
  go_wp2_with fail
  have H4 := Lib.hid (H2.out.step (al (w.alloc (.cells #[.int .i64 m.v, .int .i64 m.c, .int .i64 m.s, .int .i64 m.r, .int .i64 m.t] 24)) (.cells #[.int .i64 (m.c - 1)] 3)))
  clear H2
  have H5 := Lib.hid (keep2 (al (w.alloc (.cells #[.int .i64 m.v, .int .i64 m.c, .int .i64 m.s, .int .i64 m.r, .int .i64 m.t] 24)) (.cells #[.int .i64 (m.c - 1)] 3)) H1.out)
  clear H1
  have H6 := Lib.hid (Cs.new (w.alloc (.cells #[.int .i64 m.v, .int .i64 m.c, .int .i64 m.s, .int .i64 m.r, .int .i64 m.t] 24)) (w.heap.size + 1) #[.int .i64 (m.c - 1)] 3 (by simp))
  refine (within_any 0 (m.c - 1) _ [(m.c - 1)] _ (ints_lit (w.alloc (.cells #[.int .i64 m.v, .int .i64 m.c, .int .i64 m.s, .int .i64 m.r, .int .i64 m.t] 24)) [(m.c - 1)] #[.int .i64 (m.c - 1)] 3 rfl (by simp) 1 rfl (w.heap.size + 1) (by simp))).mono ?_
  rintro e wq7 ⟨rfl, rfl⟩
  rw [wi_one, HK0.out]
  clear xm0 xm1 xm2 xm3 xm4 zm
  have xm0 : ((w.alloc (.cells #[.int .i64 m.v, .int .i64 m.c, .int .i64 m.s, .int .i64 m.r, .int .i64 m.t] 24)).alloc (.cells #[.int .i64 (m.c - 1)] 3)).cell? ⟨(w.heap.size), 0, none⟩ = some (.int .i64 m.v) := H4.out.c 0 rfl
  have xm1 : ((w.alloc (.cells #[.int .i64 m.v, .int .i64 m.c, .int .i64 m.s, .int .i64 m.r, .int .i64 m.t] 24)).alloc (.cells #[.int .i64 (m.c - 1)] 3)).cell? ⟨(w.heap.size), 1, none⟩ = some (.int .i64 m.c) := H4.out.c 1 rfl
  have xm2 : ((w.alloc (.cells #[.int .i64 m.v, .int .i64 m.c, .int .i64 m.s, .int .i64 m.r, .int .i64 m.t] 24)).alloc (.cells #[.int .i64 (m.c - 1)] 3)).cell? ⟨(w.heap.size), 2, none⟩ = some (.int .i64 m.s) := H4.out.c 2 rfl
  have xm3 : ((w.alloc (.cells #[.int .i64 m.v, .int .i64 m.c, .int .i64 m.s, .int .i64 m.r, .int .i64 m.t] 24)).alloc (.cells #[.int .i64 (m.c - 1)] 3)).cell? ⟨(w.heap.size), 3, none⟩ = some (.int .i64 m.r) := H4.out.c 3 rfl
  have xm4 : ((w.alloc (.cells #[.int .i64 m.v, .int .i64 m.c, .int .i64 m.s, .int .i64 m.r, .int .i64 m.t] 24)).alloc (.cells #[.int .i64 (m.c - 1)] 3)).cell? ⟨(w.heap.size), 4, none⟩ = some (.int .i64 m.t) := H4.out.c 4 rfl
  have zm : (w.heap.size) < ((w.alloc (.cells #[.int .i64 m.v, .int .i64 m.c, .int .i64 m.s, .int .i64 m.r, .int .i64 m.t] 24)).alloc (.cells #[.int .i64 (m.c - 1)] 3)).heap.size := H4.out.2.2
  go_wp2
  go_ret
  exact ⟨ret_bool HR.out.symm, H5.out⟩
set_option maxRecDepth 100000 in
set_option maxHeartbeats 8000000 in
theorem fit_y1 (m : Mf) (v : Value) (l : List Int) (w : World) (h : IntsAt w v l) (hm : mfB m = true) (hk0 : inB 0 (m.c - 1) (m.c - 1) = true) (hk1 : inB 1 m.s (l.length : Int) = false) : Calls Try.prog 52 #[.agg #[.int .i64 m.v, .int .i64 m.c, .int .i64 m.s, .int .i64 m.r, .int .i64 m.t], .int .i64 (m.c - 1), v] w fun e w' => e = .returned (.bool (ftB m (m.c - 1) l)) ∧ Below w.heap.size w w' := by
  have HK0 := Lib.hid hk0
  have HK1 := Lib.hid hk1
  have HR := Lib.hid (show ftB m (m.c - 1) l = false by unfold ftB; rw [if_pos rfl, hk0, hk1]; simp)
  clear hk0 hk1
  have HI := Lib.hid h
  have H0 := Lib.hid (Below.refl w.heap.size w)
  have H1 := Lib.hid (keep2 (al w (.cells #[.int .i64 m.v, .int .i64 m.c, .int .i64 m.s, .int .i64 m.r, .int .i64 m.t] 24)) H0.out)
  clear H0
  have H2 := Lib.hid (Cs.new w (w.heap.size) #[.int .i64 m.v, .int .i64 m.c, .int .i64 m.s, .int .i64 m.r, .int .i64 m.t] 24 (by simp))
  obtain ⟨⟨-, -⟩, ⟨c1, c9⟩, ⟨s1, s9⟩, -, -⟩ := mfB_parts hm
  clear hm
  obtain ⟨p, cap, rfl, hl, -⟩ := h
  unfold maxLen at hl
  have t1 : wrap64 (m.c - 1) = m.c - 1 := IntWalk.wrap64_in _ (by omega)
  go_enter Try.func52, Try.ntmps52
  have xm0 : (w.alloc (.cells #[.int .i64 m.v, .int .i64 m.c, .int .i64 m.s, .int .i64 m.r, .int .i64 m.t] 24)).cell? ⟨(w.heap.size), 0, none⟩ = some (.int .i64 m.v) := H2.out.c 0 rfl
  have xm1 : (w.alloc (.cells #[.int .i64 m.v, .int .i64 m.c, .int .i64 m.s, .int .i64 m.r, .int .i64 m.t] 24)).cell? ⟨(w.heap.size), 1, none⟩ = some (.int .i64 m.c) := H2.out.c 1 rfl
  have xm2 : (w.alloc (.cells #[.int .i64 m.v, .int .i64 m.c, .int .i64 m.s, .int .i64 m.r, .int .i64 m.t] 24)).cell? ⟨(w.heap.size), 2, none⟩ = some (.int .i64 m.s) := H2.out.c 2 rfl
  have xm3 : (w.alloc (.cells #[.int .i64 m.v, .int .i64 m.c, .int .i64 m.s, .int .i64 m.r, .int .i64 m.t] 24)).cell? ⟨(w.heap.size), 3, none⟩ = some (.int .i64 m.r) := H2.out.c 3 rfl
  have xm4 : (w.alloc (.cells #[.int .i64 m.v, .int .i64 m.c, .int .i64 m.s, .int .i64 m.r, .int .i64 m.t] 24)).cell? ⟨(w.heap.size), 4, none⟩ = some (.int .i64 m.t) := H2.out.c 4 rfl
  have zm : (w.heap.size) < (w.alloc (.cells #[.int .i64 m.v, .int .i64 m.c, .int .i64 m.s, .int .i64 m.r, .int .i64 m.t] 24)).heap.size := H2.out.2.2
  go_wp2_with fail
  have H4 := Lib.hid (H2.out.step (al (w.alloc (.cells #[.int .i64 m.v, .int .i64 m.c, .int .i64 m.s, .int .i64 m.r, .int .i64 m.t] 24)) (.cells #[.int .i64 (m.c - 1)] 3)))
  clear H2
  have H5 := Lib.hid (keep2 (al (w.alloc (.cells #[.int .i64 m.v, .int .i64 m.c, .int .i64 m.s, .int .i64 m.r, .int .i64 m.t] 24)) (.cells #[.int .i64 (m.c - 1)] 3)) H1.out)
  clear H1
  have H6 := Lib.hid (Cs.new (w.alloc (.cells #[.int .i64 m.v, .int .i64 m.c, .int .i64 m.s, .int .i64 m.r, .int .i64 m.t] 24)) (w.heap.size + 1) #[.int .i64 (m.c - 1)] 3 (by simp))
  refine (within_any 0 (m.c - 1) _ [(m.c - 1)] _ (ints_lit (w.alloc (.cells #[.int .i64 m.v, .int .i64 m.c, .int .i64 m.s, .int .i64 m.r, .int .i64 m.t] 24)) [(m.c - 1)] #[.int .i64 (m.c - 1)] 3 rfl (by simp) 1 rfl (w.heap.size + 1) (by simp))).mono ?_
  rintro e wq7 ⟨rfl, rfl⟩
  rw [wi_one, HK0.out]
  clear xm0 xm1 xm2 xm3 xm4 zm
  have xm0 : ((w.alloc (.cells #[.int .i64 m.v, .int .i64 m.c, .int .i64 m.s, .int .i64 m.r, .int .i64 m.t] 24)).alloc (.cells #[.int .i64 (m.c - 1)] 3)).cell? ⟨(w.heap.size), 0, none⟩ = some (.int .i64 m.v) := H4.out.c 0 rfl
  have xm1 : ((w.alloc (.cells #[.int .i64 m.v, .int .i64 m.c, .int .i64 m.s, .int .i64 m.r, .int .i64 m.t] 24)).alloc (.cells #[.int .i64 (m.c - 1)] 3)).cell? ⟨(w.heap.size), 1, none⟩ = some (.int .i64 m.c) := H4.out.c 1 rfl
  have xm2 : ((w.alloc (.cells #[.int .i64 m.v, .int .i64 m.c, .int .i64 m.s, .int .i64 m.r, .int .i64 m.t] 24)).alloc (.cells #[.int .i64 (m.c - 1)] 3)).cell? ⟨(w.heap.size), 2, none⟩ = some (.int .i64 m.s) := H4.out.c 2 rfl
  have xm3 : ((w.alloc (.cells #[.int .i64 m.v, .int .i64 m.c, .int .i64 m.s, .int .i64 m.r, .int .i64 m.t] 24)).alloc (.cells #[.int .i64 (m.c - 1)] 3)).cell? ⟨(w.heap.size), 3, none⟩ = some (.int .i64 m.r) := H4.out.c 3 rfl
  have xm4 : ((w.alloc (.cells #[.int .i64 m.v, .int .i64 m.c, .int .i64 m.s, .int .i64 m.r, .int .i64 m.t] 24)).alloc (.cells #[.int .i64 (m.c - 1)] 3)).cell? ⟨(w.heap.size), 4, none⟩ = some (.int .i64 m.t) := H4.out.c 4 rfl
  have zm : (w.heap.size) < ((w.alloc (.cells #[.int .i64 m.v, .int .i64 m.c, .int .i64 m.s, .int .i64 m.r, .int .i64 m.t] 24)).alloc (.cells #[.int .i64 (m.c - 1)] 3)).heap.size := H4.out.2.2
  go_wp2_with fail
  have H9 := Lib.hid (H4.out.step (al ((w.alloc (.cells #[.int .i64 m.v, .int .i64 m.c, .int .i64 m.s, .int .i64 m.r, .int .i64 m.t] 24)).alloc (.cells #[.int .i64 (m.c - 1)] 3)) (.cells #[.int .i64 (l.length : Int)] 3)))
  clear H4
  have H10 := Lib.hid (H6.out.step (al ((w.alloc (.cells #[.int .i64 m.v, .int .i64 m.c, .int .i64 m.s, .int .i64 m.r, .int .i64 m.t] 24)).alloc (.cells #[.int .i64 (m.c - 1)] 3)) (.cells #[.int .i64 (l.length : Int)] 3)))
  clear H6
  have H11 := Lib.hid (keep2 (al ((w.alloc (.cells #[.int .i64 m.v, .int .i64 m.c, .int .i64 m.s, .int .i64 m.r, .int .i64 m.t] 24)).alloc (.cells #[.int .i64 (m.c - 1)] 3)) (.cells #[.int .i64 (l.length : Int)] 3)) H5.out)
  clear H5
  have H12 := Lib.hid (Cs.new ((w.alloc (.cells #[.int .i64 m.v, .int .i64 m.c, .int .i64 m.s, .int .i64 m.r, .int .i64 m.t] 24)).alloc (.cells #[.int .i64 (m.c - 1)] 3)) (w.heap.size + 1 + 1) #[.int .i64 (l.length : Int)] 3 (by simp))
  refine (within_any 1 m.s _ [(l.length : Int)] _ (ints_lit ((w.alloc (.cells #[.int .i64 m.v, .int .i64 m.c, .int .i64 m.s, .int .i64 m.r, .int .i64 m.t] 24)).alloc (.cells #[.int .i64 (m.c - 1)] 3)) [(l.length : Int)] #[.int .i64 (l.length : Int)] 3 rfl (by simp) 1 rfl (w.heap.size + 1 + 1) (by simp))).mono ?_
  rintro e wq13 ⟨rfl, rfl⟩
  rw [wi_one, HK1.out]
  clear xm0 xm1 xm2 xm3 xm4 zm
  have xm0 : (((w.alloc (.cells #[.int .i64 m.v, .int .i64 m.c, .int .i64 m.s, .int .i64 m.r, .int .i64 m.t] 24)).alloc (.cells #[.int .i64 (m.c - 1)] 3)).alloc (.cells #[.int .i64 (l.length : Int)] 3)).cell? ⟨(w.heap.size), 0, none⟩ = some (.int .i64 m.v) := H9.out.c 0 rfl
  have xm1 : (((w.alloc (.cells #[.int .i64 m.v, .int .i64 m.c, .int .i64 m.s, .int .i64 m.r, .int .i64 m.t] 24)).alloc (.cells #[.int .i64 (m.c - 1)] 3)).alloc (.cells #[.int .i64 (l.length : Int)] 3)).cell? ⟨(w.heap.size), 1, none⟩ = some (.int .i64 m.c) := H9.out.c 1 rfl
  have xm2 : (((w.alloc (.cells #[.int .i64 m.v, .int .i64 m.c, .int .i64 m.s, .int .i64 m.r, .int .i64 m.t] 24)).alloc (.cells #[.int .i64 (m.c - 1)] 3)).alloc (.cells #[.int .i64 (l.length : Int)] 3)).cell? ⟨(w.heap.size), 2, none⟩ = some (.int .i64 m.s) := H9.out.c 2 rfl
  have xm3 : (((w.alloc (.cells #[.int .i64 m.v, .int .i64 m.c, .int .i64 m.s, .int .i64 m.r, .int .i64 m.t] 24)).alloc (.cells #[.int .i64 (m.c - 1)] 3)).alloc (.cells #[.int .i64 (l.length : Int)] 3)).cell? ⟨(w.heap.size), 3, none⟩ = some (.int .i64 m.r) := H9.out.c 3 rfl
  have xm4 : (((w.alloc (.cells #[.int .i64 m.v, .int .i64 m.c, .int .i64 m.s, .int .i64 m.r, .int .i64 m.t] 24)).alloc (.cells #[.int .i64 (m.c - 1)] 3)).alloc (.cells #[.int .i64 (l.length : Int)] 3)).cell? ⟨(w.heap.size), 4, none⟩ = some (.int .i64 m.t) := H9.out.c 4 rfl
  have zm : (w.heap.size) < (((w.alloc (.cells #[.int .i64 m.v, .int .i64 m.c, .int .i64 m.s, .int .i64 m.r, .int .i64 m.t] 24)).alloc (.cells #[.int .i64 (m.c - 1)] 3)).alloc (.cells #[.int .i64 (l.length : Int)] 3)).heap.size := H9.out.2.2
  go_wp2
  go_ret
  exact ⟨ret_bool HR.out.symm, H11.out⟩
set_option maxRecDepth 100000 in
set_option maxHeartbeats 8000000 in
theorem fit_y2 (m : Mf) (v : Value) (l : List Int) (b : Bool) (w : World) (h : IntsAt w v l) (hm : mfB m = true) (hk0 : inB 0 (m.c - 1) (m.c - 1) = true) (hk1 : inB 1 m.s (l.length : Int) = true) (hk2 : daB l = b) : Calls Try.prog 52 #[.agg #[.int .i64 m.v, .int .i64 m.c, .int .i64 m.s, .int .i64 m.r, .int .i64 m.t], .int .i64 (m.c - 1), v] w fun e w' => e = .returned (.bool (ftB m (m.c - 1) l)) ∧ Below w.heap.size w w' := by
  have HK0 := Lib.hid hk0
  have HK1 := Lib.hid hk1
  have HK2 := Lib.hid hk2
  have HR := Lib.hid (show ftB m (m.c - 1) l = b by unfold ftB; rw [if_pos rfl, hk0, hk1, hk2]; simp)
  clear hk0 hk1 hk2
  have HI := Lib.hid h
  have H0 := Lib.hid (Below.refl w.heap.size w)
  have H1 := Lib.hid (keep2 (al w (.cells #[.int .i64 m.v, .int .i64 m.c, .int .i64 m.s, .int .i64 m.r, .int .i64 m.t] 24)) H0.out)
  clear H0
  have H2 := Lib.hid (Cs.new w (w.heap.size) #[.int .i64 m.v, .int .i64 m.c, .int .i64 m.s, .int .i64 m.r, .int .i64 m.t] 24 (by simp))
  obtain ⟨⟨-, -⟩, ⟨c1, c9⟩, ⟨s1, s9⟩, -, -⟩ := mfB_parts hm
  clear hm
  obtain ⟨p, cap, rfl, hl, -⟩ := h
  unfold maxLen at hl
  have t1 : wrap64 (m.c - 1) = m.c - 1 := IntWalk.wrap64_in _ (by omega)
  go_enter Try.func52, Try.ntmps52
  have xm0 : (w.alloc (.cells #[.int .i64 m.v, .int .i64 m.c, .int .i64 m.s, .int .i64 m.r, .int .i64 m.t] 24)).cell? ⟨(w.heap.size), 0, none⟩ = some (.int .i64 m.v) := H2.out.c 0 rfl
  have xm1 : (w.alloc (.cells #[.int .i64 m.v, .int .i64 m.c, .int .i64 m.s, .int .i64 m.r, .int .i64 m.t] 24)).cell? ⟨(w.heap.size), 1, none⟩ = some (.int .i64 m.c) := H2.out.c 1 rfl
  have xm2 : (w.alloc (.cells #[.int .i64 m.v, .int .i64 m.c, .int .i64 m.s, .int .i64 m.r, .int .i64 m.t] 24)).cell? ⟨(w.heap.size), 2, none⟩ = some (.int .i64 m.s) := H2.out.c 2 rfl
  have xm3 : (w.alloc (.cells #[.int .i64 m.v, .int .i64 m.c, .int .i64 m.s, .int .i64 m.r, .int .i64 m.t] 24)).cell? ⟨(w.heap.size), 3, none⟩ = some (.int .i64 m.r) := H2.out.c 3 rfl
  have xm4 : (w.alloc (.cells #[.int .i64 m.v, .int .i64 m.c, .int .i64 m.s, .int .i64 m.r, .int .i64 m.t] 24)).cell? ⟨(w.heap.size), 4, none⟩ = some (.int .i64 m.t) := H2.out.c 4 rfl
  have zm : (w.heap.size) < (w.alloc (.cells #[.int .i64 m.v, .int .i64 m.c, .int .i64 m.s, .int .i64 m.r, .int .i64 m.t] 24)).heap.size := H2.out.2.2
  go_wp2_with fail
  have H4 := Lib.hid (H2.out.step (al (w.alloc (.cells #[.int .i64 m.v, .int .i64 m.c, .int .i64 m.s, .int .i64 m.r, .int .i64 m.t] 24)) (.cells #[.int .i64 (m.c - 1)] 3)))
  clear H2
  have H5 := Lib.hid (keep2 (al (w.alloc (.cells #[.int .i64 m.v, .int .i64 m.c, .int .i64 m.s, .int .i64 m.r, .int .i64 m.t] 24)) (.cells #[.int .i64 (m.c - 1)] 3)) H1.out)
  clear H1
  have H6 := Lib.hid (Cs.new (w.alloc (.cells #[.int .i64 m.v, .int .i64 m.c, .int .i64 m.s, .int .i64 m.r, .int .i64 m.t] 24)) (w.heap.size + 1) #[.int .i64 (m.c - 1)] 3 (by simp))
  refine (within_any 0 (m.c - 1) _ [(m.c - 1)] _ (ints_lit (w.alloc (.cells #[.int .i64 m.v, .int .i64 m.c, .int .i64 m.s, .int .i64 m.r, .int .i64 m.t] 24)) [(m.c - 1)] #[.int .i64 (m.c - 1)] 3 rfl (by simp) 1 rfl (w.heap.size + 1) (by simp))).mono ?_
  rintro e wq7 ⟨rfl, rfl⟩
  rw [wi_one, HK0.out]
  clear xm0 xm1 xm2 xm3 xm4 zm
  have xm0 : ((w.alloc (.cells #[.int .i64 m.v, .int .i64 m.c, .int .i64 m.s, .int .i64 m.r, .int .i64 m.t] 24)).alloc (.cells #[.int .i64 (m.c - 1)] 3)).cell? ⟨(w.heap.size), 0, none⟩ = some (.int .i64 m.v) := H4.out.c 0 rfl
  have xm1 : ((w.alloc (.cells #[.int .i64 m.v, .int .i64 m.c, .int .i64 m.s, .int .i64 m.r, .int .i64 m.t] 24)).alloc (.cells #[.int .i64 (m.c - 1)] 3)).cell? ⟨(w.heap.size), 1, none⟩ = some (.int .i64 m.c) := H4.out.c 1 rfl
  have xm2 : ((w.alloc (.cells #[.int .i64 m.v, .int .i64 m.c, .int .i64 m.s, .int .i64 m.r, .int .i64 m.t] 24)).alloc (.cells #[.int .i64 (m.c - 1)] 3)).cell? ⟨(w.heap.size), 2, none⟩ = some (.int .i64 m.s) := H4.out.c 2 rfl
  have xm3 : ((w.alloc (.cells #[.int .i64 m.v, .int .i64 m.c, .int .i64 m.s, .int .i64 m.r, .int .i64 m.t] 24)).alloc (.cells #[.int .i64 (m.c - 1)] 3)).cell? ⟨(w.heap.size), 3, none⟩ = some (.int .i64 m.r) := H4.out.c 3 rfl
  have xm4 : ((w.alloc (.cells #[.int .i64 m.v, .int .i64 m.c, .int .i64 m.s, .int .i64 m.r, .int .i64 m.t] 24)).alloc (.cells #[.int .i64 (m.c - 1)] 3)).cell? ⟨(w.heap.size), 4, none⟩ = some (.int .i64 m.t) := H4.out.c 4 rfl
  have zm : (w.heap.size) < ((w.alloc (.cells #[.int .i64 m.v, .int .i64 m.c, .int .i64 m.s, .int .i64 m.r, .int .i64 m.t] 24)).alloc (.cells #[.int .i64 (m.c - 1)] 3)).heap.size := H4.out.2.2
  go_wp2_with fail
  have H9 := Lib.hid (H4.out.step (al ((w.alloc (.cells #[.int .i64 m.v, .int .i64 m.c, .int .i64 m.s, .int .i64 m.r, .int .i64 m.t] 24)).alloc (.cells #[.int .i64 (m.c - 1)] 3)) (.cells #[.int .i64 (l.length : Int)] 3)))
  clear H4
  have H10 := Lib.hid (H6.out.step (al ((w.alloc (.cells #[.int .i64 m.v, .int .i64 m.c, .int .i64 m.s, .int .i64 m.r, .int .i64 m.t] 24)).alloc (.cells #[.int .i64 (m.c - 1)] 3)) (.cells #[.int .i64 (l.length : Int)] 3)))
  clear H6
  have H11 := Lib.hid (keep2 (al ((w.alloc (.cells #[.int .i64 m.v, .int .i64 m.c, .int .i64 m.s, .int .i64 m.r, .int .i64 m.t] 24)).alloc (.cells #[.int .i64 (m.c - 1)] 3)) (.cells #[.int .i64 (l.length : Int)] 3)) H5.out)
  clear H5
  have H12 := Lib.hid (Cs.new ((w.alloc (.cells #[.int .i64 m.v, .int .i64 m.c, .int .i64 m.s, .int .i64 m.r, .int .i64 m.t] 24)).alloc (.cells #[.int .i64 (m.c - 1)] 3)) (w.heap.size + 1 + 1) #[.int .i64 (l.length : Int)] 3 (by simp))
  refine (within_any 1 m.s _ [(l.length : Int)] _ (ints_lit ((w.alloc (.cells #[.int .i64 m.v, .int .i64 m.c, .int .i64 m.s, .int .i64 m.r, .int .i64 m.t] 24)).alloc (.cells #[.int .i64 (m.c - 1)] 3)) [(l.length : Int)] #[.int .i64 (l.length : Int)] 3 rfl (by simp) 1 rfl (w.heap.size + 1 + 1) (by simp))).mono ?_
  rintro e wq13 ⟨rfl, rfl⟩
  rw [wi_one, HK1.out]
  clear xm0 xm1 xm2 xm3 xm4 zm
  have xm0 : (((w.alloc (.cells #[.int .i64 m.v, .int .i64 m.c, .int .i64 m.s, .int .i64 m.r, .int .i64 m.t] 24)).alloc (.cells #[.int .i64 (m.c - 1)] 3)).alloc (.cells #[.int .i64 (l.length : Int)] 3)).cell? ⟨(w.heap.size), 0, none⟩ = some (.int .i64 m.v) := H9.out.c 0 rfl
  have xm1 : (((w.alloc (.cells #[.int .i64 m.v, .int .i64 m.c, .int .i64 m.s, .int .i64 m.r, .int .i64 m.t] 24)).alloc (.cells #[.int .i64 (m.c - 1)] 3)).alloc (.cells #[.int .i64 (l.length : Int)] 3)).cell? ⟨(w.heap.size), 1, none⟩ = some (.int .i64 m.c) := H9.out.c 1 rfl
  have xm2 : (((w.alloc (.cells #[.int .i64 m.v, .int .i64 m.c, .int .i64 m.s, .int .i64 m.r, .int .i64 m.t] 24)).alloc (.cells #[.int .i64 (m.c - 1)] 3)).alloc (.cells #[.int .i64 (l.length : Int)] 3)).cell? ⟨(w.heap.size), 2, none⟩ = some (.int .i64 m.s) := H9.out.c 2 rfl
  have xm3 : (((w.alloc (.cells #[.int .i64 m.v, .int .i64 m.c, .int .i64 m.s, .int .i64 m.r, .int .i64 m.t] 24)).alloc (.cells #[.int .i64 (m.c - 1)] 3)).alloc (.cells #[.int .i64 (l.length : Int)] 3)).cell? ⟨(w.heap.size), 3, none⟩ = some (.int .i64 m.r) := H9.out.c 3 rfl
  have xm4 : (((w.alloc (.cells #[.int .i64 m.v, .int .i64 m.c, .int .i64 m.s, .int .i64 m.r, .int .i64 m.t] 24)).alloc (.cells #[.int .i64 (m.c - 1)] 3)).alloc (.cells #[.int .i64 (l.length : Int)] 3)).cell? ⟨(w.heap.size), 4, none⟩ = some (.int .i64 m.t) := H9.out.c 4 rfl
  have zm : (w.heap.size) < (((w.alloc (.cells #[.int .i64 m.v, .int .i64 m.c, .int .i64 m.s, .int .i64 m.r, .int .i64 m.t] 24)).alloc (.cells #[.int .i64 (m.c - 1)] 3)).alloc (.cells #[.int .i64 (l.length : Int)] 3)).heap.size := H9.out.2.2
  go_wp2_with fail
  refine (isData_any _ l _ (HI.out.step H11.out)).mono ?_
  rintro e wq14 ⟨rfl, rfl⟩
  rw [HK2.out]
  go_wp2
  go_ret
  exact ⟨ret_bool HR.out.symm, H11.out⟩
set_option maxRecDepth 100000 in
set_option maxHeartbeats 8000000 in
theorem fit_n0 (m : Mf) (i : Int) (v : Value) (l : List Int) (w : World) (h : IntsAt w v l) (hm : mfB m = true) (he : ¬ i = m.c - 1) (hk0 : inB 0 (m.c - 1) i = false) : Calls Try.prog 52 #[.agg #[.int .i64 m.v, .int .i64 m.c, .int .i64 m.s, .int .i64 m.r, .int .i64 m.t], .int .i64 i, v] w fun e w' => e = .returned (.bool (ftB m i l)) ∧ Below w.heap.size w w' := by
  have HK0 := Lib.hid hk0
  have HR := Lib.hid (show ftB m i l = false by unfold ftB; rw [if_neg he, hk0]; rfl)
  clear hk0
  have HI := Lib.hid h
  have H0 := Lib.hid (Below.refl w.heap.size w)
  have H1 := Lib.hid (keep2 (al w (.cells #[.int .i64 m.v, .int .i64 m.c, .int .i64 m.s, .int .i64 m.r, .int .i64 m.t] 24)) H0.out)
  clear H0
  have H2 := Lib.hid (Cs.new w (w.heap.size) #[.int .i64 m.v, .int .i64 m.c, .int .i64 m.s, .int .i64 m.r, .int .i64 m.t] 24 (by simp))
  obtain ⟨⟨-, -⟩, ⟨c1, c9⟩, ⟨s1, s9⟩, -, -⟩ := mfB_parts hm
  clear hm
  obtain ⟨p, cap, rfl, hl, -⟩ := h
  unfold maxLen at hl
  have t1 : wrap64 (m.c - 1) = m.c - 1 := IntWalk.wrap64_in _ (by omega)
  have t2 : (i == m.c - 1) = false := by simpa using he
  go_enter Try.func52, Try.ntmps52
  have xm0 : (w.alloc (.cells #[.int .i64 m.v, .int .i64 m.c, .int .i64 m.s, .int .i64 m.r, .int .i64 m.t] 24)).cell? ⟨(w.heap.size), 0, none⟩ = some (.int .i64 m.v) := H2.out.c 0 rfl
  have xm1 : (w.alloc (.cells #[.int .i64 m.v, .int .i64 m.c, .int .i64 m.s, .int .i64 m.r, .int .i64 m.t] 24)).cell? ⟨(w.heap.size), 1, none⟩ = some (.int .i64 m.c) := H2.out.c 1 rfl
  have xm2 : (w.alloc (.cells #[.int .i64 m.v, .int .i64 m.c, .int .i64 m.s, .int .i64 m.r, .int .i64 m.t] 24)).cell? ⟨(w.heap.size), 2, none⟩ = some (.int .i64 m.s) := H2.out.c 2 rfl
  have xm3 : (w.alloc (.cells #[.int .i64 m.v, .int .i64 m.c, .int .i64 m.s, .int .i64 m.r, .int .i64 m.t] 24)).cell? ⟨(w.heap.size), 3, none⟩ = some (.int .i64 m.r) := H2.out.c 3 rfl
  have xm4 : (w.alloc (.cells #[.int .i64 m.v, .int .i64 m.c, .int .i64 m.s, .int .i64 m.r, .int .i64 m.t] 24)).cell? ⟨(w.heap.size), 4, none⟩ = some (.int .i64 m.t) := H2.out.c 4 rfl
  have zm : (w.heap.size) < (w.alloc (.cells #[.int .i64 m.v, .int .i64 m.c, .int .i64 m.s, .int .i64 m.r, .int .i64 m.t] 24)).heap.size := H2.out.2.2
  go_wp2_with fail
  have H4 := Lib.hid (H2.out.step (al (w.alloc (.cells #[.int .i64 m.v, .int .i64 m.c, .int .i64 m.s, .int .i64 m.r, .int .i64 m.t] 24)) (.cells #[.int .i64 i] 3)))
  clear H2
  have H5 := Lib.hid (keep2 (al (w.alloc (.cells #[.int .i64 m.v, .int .i64 m.c, .int .i64 m.s, .int .i64 m.r, .int .i64 m.t] 24)) (.cells #[.int .i64 i] 3)) H1.out)
  clear H1
  have H6 := Lib.hid (Cs.new (w.alloc (.cells #[.int .i64 m.v, .int .i64 m.c, .int .i64 m.s, .int .i64 m.r, .int .i64 m.t] 24)) (w.heap.size + 1) #[.int .i64 i] 3 (by simp))
  refine (within_any 0 (m.c - 1) _ [i] _ (ints_lit (w.alloc (.cells #[.int .i64 m.v, .int .i64 m.c, .int .i64 m.s, .int .i64 m.r, .int .i64 m.t] 24)) [i] #[.int .i64 i] 3 rfl (by simp) 1 rfl (w.heap.size + 1) (by simp))).mono ?_
  rintro e wq7 ⟨rfl, rfl⟩
  rw [wi_one, HK0.out]
  clear xm0 xm1 xm2 xm3 xm4 zm
  have xm0 : ((w.alloc (.cells #[.int .i64 m.v, .int .i64 m.c, .int .i64 m.s, .int .i64 m.r, .int .i64 m.t] 24)).alloc (.cells #[.int .i64 i] 3)).cell? ⟨(w.heap.size), 0, none⟩ = some (.int .i64 m.v) := H4.out.c 0 rfl
  have xm1 : ((w.alloc (.cells #[.int .i64 m.v, .int .i64 m.c, .int .i64 m.s, .int .i64 m.r, .int .i64 m.t] 24)).alloc (.cells #[.int .i64 i] 3)).cell? ⟨(w.heap.size), 1, none⟩ = some (.int .i64 m.c) := H4.out.c 1 rfl
  have xm2 : ((w.alloc (.cells #[.int .i64 m.v, .int .i64 m.c, .int .i64 m.s, .int .i64 m.r, .int .i64 m.t] 24)).alloc (.cells #[.int .i64 i] 3)).cell? ⟨(w.heap.size), 2, none⟩ = some (.int .i64 m.s) := H4.out.c 2 rfl
  have xm3 : ((w.alloc (.cells #[.int .i64 m.v, .int .i64 m.c, .int .i64 m.s, .int .i64 m.r, .int .i64 m.t] 24)).alloc (.cells #[.int .i64 i] 3)).cell? ⟨(w.heap.size), 3, none⟩ = some (.int .i64 m.r) := H4.out.c 3 rfl
  have xm4 : ((w.alloc (.cells #[.int .i64 m.v, .int .i64 m.c, .int .i64 m.s, .int .i64 m.r, .int .i64 m.t] 24)).alloc (.cells #[.int .i64 i] 3)).cell? ⟨(w.heap.size), 4, none⟩ = some (.int .i64 m.t) := H4.out.c 4 rfl
  have zm : (w.heap.size) < ((w.alloc (.cells #[.int .i64 m.v, .int .i64 m.c, .int .i64 m.s, .int .i64 m.r, .int .i64 m.t] 24)).alloc (.cells #[.int .i64 i] 3)).heap.size := H4.out.2.2
  go_wp2
  go_ret
  exact ⟨ret_bool HR.out.symm, H5.out⟩
set_option maxRecDepth 100000 in
set_option maxHeartbeats 8000000 in
theorem fit_n1 (m : Mf) (i : Int) (v : Value) (l : List Int) (w : World) (h : IntsAt w v l) (hm : mfB m = true) (he : ¬ i = m.c - 1) (hk0 : inB 0 (m.c - 1) i = true) (hk1 : inB m.s m.s (l.length : Int) = false) : Calls Try.prog 52 #[.agg #[.int .i64 m.v, .int .i64 m.c, .int .i64 m.s, .int .i64 m.r, .int .i64 m.t], .int .i64 i, v] w fun e w' => e = .returned (.bool (ftB m i l)) ∧ Below w.heap.size w w' := by
  have HK0 := Lib.hid hk0
  have HK1 := Lib.hid hk1
  have HR := Lib.hid (show ftB m i l = false by unfold ftB; rw [if_neg he, hk0, hk1]; simp)
  clear hk0 hk1
  have HI := Lib.hid h
  have H0 := Lib.hid (Below.refl w.heap.size w)
  have H1 := Lib.hid (keep2 (al w (.cells #[.int .i64 m.v, .int .i64 m.c, .int .i64 m.s, .int .i64 m.r, .int .i64 m.t] 24)) H0.out)
  clear H0
  have H2 := Lib.hid (Cs.new w (w.heap.size) #[.int .i64 m.v, .int .i64 m.c, .int .i64 m.s, .int .i64 m.r, .int .i64 m.t] 24 (by simp))
  obtain ⟨⟨-, -⟩, ⟨c1, c9⟩, ⟨s1, s9⟩, -, -⟩ := mfB_parts hm
  clear hm
  obtain ⟨p, cap, rfl, hl, -⟩ := h
  unfold maxLen at hl
  have t1 : wrap64 (m.c - 1) = m.c - 1 := IntWalk.wrap64_in _ (by omega)
  have t2 : (i == m.c - 1) = false := by simpa using he
  go_enter Try.func52, Try.ntmps52
  have xm0 : (w.alloc (.cells #[.int .i64 m.v, .int .i64 m.c, .int .i64 m.s, .int .i64 m.r, .int .i64 m.t] 24)).cell? ⟨(w.heap.size), 0, none⟩ = some (.int .i64 m.v) := H2.out.c 0 rfl
  have xm1 : (w.alloc (.cells #[.int .i64 m.v, .int .i64 m.c, .int .i64 m.s, .int .i64 m.r, .int .i64 m.t] 24)).cell? ⟨(w.heap.size), 1, none⟩ = some (.int .i64 m.c) := H2.out.c 1 rfl
  have xm2 : (w.alloc (.cells #[.int .i64 m.v, .int .i64 m.c, .int .i64 m.s, .int .i64 m.r, .int .i64 m.t] 24)).cell? ⟨(w.heap.size), 2, none⟩ = some (.int .i64 m.s) := H2.out.c 2 rfl
  have xm3 : (w.alloc (.cells #[.int .i64 m.v, .int .i64 m.c, .int .i64 m.s, .int .i64 m.r, .int .i64 m.t] 24)).cell? ⟨(w.heap.size), 3, none⟩ = some (.int .i64 m.r) := H2.out.c 3 rfl
  have xm4 : (w.alloc (.cells #[.int .i64 m.v, .int .i64 m.c, .int .i64 m.s, .int .i64 m.r, .int .i64 m.t] 24)).cell? ⟨(w.heap.size), 4, none⟩ = some (.int .i64 m.t) := H2.out.c 4 rfl
  have zm : (w.heap.size) < (w.alloc (.cells #[.int .i64 m.v, .int .i64 m.c, .int .i64 m.s, .int .i64 m.r, .int .i64 m.t] 24)).heap.size := H2.out.2.2
  go_wp2_with fail
  have H4 := Lib.hid (H2.out.step (al (w.alloc (.cells #[.int .i64 m.v, .int .i64 m.c, .int .i64 m.s, .int .i64 m.r, .int .i64 m.t] 24)) (.cells #[.int .i64 i] 3)))
  clear H2
  have H5 := Lib.hid (keep2 (al (w.alloc (.cells #[.int .i64 m.v, .int .i64 m.c, .int .i64 m.s, .int .i64 m.r, .int .i64 m.t] 24)) (.cells #[.int .i64 i] 3)) H1.out)
  clear H1
  have H6 := Lib.hid (Cs.new (w.alloc (.cells #[.int .i64 m.v, .int .i64 m.c, .int .i64 m.s, .int .i64 m.r, .int .i64 m.t] 24)) (w.heap.size + 1) #[.int .i64 i] 3 (by simp))
  refine (within_any 0 (m.c - 1) _ [i] _ (ints_lit (w.alloc (.cells #[.int .i64 m.v, .int .i64 m.c, .int .i64 m.s, .int .i64 m.r, .int .i64 m.t] 24)) [i] #[.int .i64 i] 3 rfl (by simp) 1 rfl (w.heap.size + 1) (by simp))).mono ?_
  rintro e wq7 ⟨rfl, rfl⟩
  rw [wi_one, HK0.out]
  clear xm0 xm1 xm2 xm3 xm4 zm
  have xm0 : ((w.alloc (.cells #[.int .i64 m.v, .int .i64 m.c, .int .i64 m.s, .int .i64 m.r, .int .i64 m.t] 24)).alloc (.cells #[.int .i64 i] 3)).cell? ⟨(w.heap.size), 0, none⟩ = some (.int .i64 m.v) := H4.out.c 0 rfl
  have xm1 : ((w.alloc (.cells #[.int .i64 m.v, .int .i64 m.c, .int .i64 m.s, .int .i64 m.r, .int .i64 m.t] 24)).alloc (.cells #[.int .i64 i] 3)).cell? ⟨(w.heap.size), 1, none⟩ = some (.int .i64 m.c) := H4.out.c 1 rfl
  have xm2 : ((w.alloc (.cells #[.int .i64 m.v, .int .i64 m.c, .int .i64 m.s, .int .i64 m.r, .int .i64 m.t] 24)).alloc (.cells #[.int .i64 i] 3)).cell? ⟨(w.heap.size), 2, none⟩ = some (.int .i64 m.s) := H4.out.c 2 rfl
  have xm3 : ((w.alloc (.cells #[.int .i64 m.v, .int .i64 m.c, .int .i64 m.s, .int .i64 m.r, .int .i64 m.t] 24)).alloc (.cells #[.int .i64 i] 3)).cell? ⟨(w.heap.size), 3, none⟩ = some (.int .i64 m.r) := H4.out.c 3 rfl
  have xm4 : ((w.alloc (.cells #[.int .i64 m.v, .int .i64 m.c, .int .i64 m.s, .int .i64 m.r, .int .i64 m.t] 24)).alloc (.cells #[.int .i64 i] 3)).cell? ⟨(w.heap.size), 4, none⟩ = some (.int .i64 m.t) := H4.out.c 4 rfl
  have zm : (w.heap.size) < ((w.alloc (.cells #[.int .i64 m.v, .int .i64 m.c, .int .i64 m.s, .int .i64 m.r, .int .i64 m.t] 24)).alloc (.cells #[.int .i64 i] 3)).heap.size := H4.out.2.2
  go_wp2_with fail
  have H9 := Lib.hid (H4.out.step (al ((w.alloc (.cells #[.int .i64 m.v, .int .i64 m.c, .int .i64 m.s, .int .i64 m.r, .int .i64 m.t] 24)).alloc (.cells #[.int .i64 i] 3)) (.cells #[.int .i64 (l.length : Int)] 3)))
  clear H4
  have H10 := Lib.hid (H6.out.step (al ((w.alloc (.cells #[.int .i64 m.v, .int .i64 m.c, .int .i64 m.s, .int .i64 m.r, .int .i64 m.t] 24)).alloc (.cells #[.int .i64 i] 3)) (.cells #[.int .i64 (l.length : Int)] 3)))
  clear H6
  have H11 := Lib.hid (keep2 (al ((w.alloc (.cells #[.int .i64 m.v, .int .i64 m.c, .int .i64 m.s, .int .i64 m.r, .int .i64 m.t] 24)).alloc (.cells #[.int .i64 i] 3)) (.cells #[.int .i64 (l.length : Int)] 3)) H5.out)
  clear H5
  have H12 := Lib.hid (Cs.new ((w.alloc (.cells #[.int .i64 m.v, .int .i64 m.c, .int .i64 m.s, .int .i64 m.r, .int .i64 m.t] 24)).alloc (.cells #[.int .i64 i] 3)) (w.heap.size + 1 + 1) #[.int .i64 (l.length : Int)] 3 (by simp))
  refine (within_any m.s m.s _ [(l.length : Int)] _ (ints_lit ((w.alloc (.cells #[.int .i64 m.v, .int .i64 m.c, .int .i64 m.s, .int .i64 m.r, .int .i64 m.t] 24)).alloc (.cells #[.int .i64 i] 3)) [(l.length : Int)] #[.int .i64 (l.length : Int)] 3 rfl (by simp) 1 rfl (w.heap.size + 1 + 1) (by simp))).mono ?_
  rintro e wq13 ⟨rfl, rfl⟩
  rw [wi_one, HK1.out]
  clear xm0 xm1 xm2 xm3 xm4 zm
  have xm0 : (((w.alloc (.cells #[.int .i64 m.v, .int .i64 m.c, .int .i64 m.s, .int .i64 m.r, .int .i64 m.t] 24)).alloc (.cells #[.int .i64 i] 3)).alloc (.cells #[.int .i64 (l.length : Int)] 3)).cell? ⟨(w.heap.size), 0, none⟩ = some (.int .i64 m.v) := H9.out.c 0 rfl
  have xm1 : (((w.alloc (.cells #[.int .i64 m.v, .int .i64 m.c, .int .i64 m.s, .int .i64 m.r, .int .i64 m.t] 24)).alloc (.cells #[.int .i64 i] 3)).alloc (.cells #[.int .i64 (l.length : Int)] 3)).cell? ⟨(w.heap.size), 1, none⟩ = some (.int .i64 m.c) := H9.out.c 1 rfl
  have xm2 : (((w.alloc (.cells #[.int .i64 m.v, .int .i64 m.c, .int .i64 m.s, .int .i64 m.r, .int .i64 m.t] 24)).alloc (.cells #[.int .i64 i] 3)).alloc (.cells #[.int .i64 (l.length : Int)] 3)).cell? ⟨(w.heap.size), 2, none⟩ = some (.int .i64 m.s) := H9.out.c 2 rfl
  have xm3 : (((w.alloc (.cells #[.int .i64 m.v, .int .i64 m.c, .int .i64 m.s, .int .i64 m.r, .int .i64 m.t] 24)).alloc (.cells #[.int .i64 i] 3)).alloc (.cells #[.int .i64 (l.length : Int)] 3)).cell? ⟨(w.heap.size), 3, none⟩ = some (.int .i64 m.r) := H9.out.c 3 rfl
  have xm4 : (((w.alloc (.cells #[.int .i64 m.v, .int .i64 m.c, .int .i64 m.s, .int .i64 m.r, .int .i64 m.t] 24)).alloc (.cells #[.int .i64 i] 3)).alloc (.cells #[.int .i64 (l.length : Int)] 3)).cell? ⟨(w.heap.size), 4, none⟩ = some (.int .i64 m.t) := H9.out.c 4 rfl
  have zm : (w.heap.size) < (((w.alloc (.cells #[.int .i64 m.v, .int .i64 m.c, .int .i64 m.s, .int .i64 m.r, .int .i64 m.t] 24)).alloc (.cells #[.int .i64 i] 3)).alloc (.cells #[.int .i64 (l.length : Int)] 3)).heap.size := H9.out.2.2
  go_wp2
  go_ret
  exact ⟨ret_bool HR.out.symm, H11.out⟩
set_option maxRecDepth 100000 in
set_option maxHeartbeats 8000000 in
theorem fit_n2 (m : Mf) (i : Int) (v : Value) (l : List Int) (b : Bool) (w : World) (h : IntsAt w v l) (hm : mfB m = true) (he : ¬ i = m.c - 1) (hk0 : inB 0 (m.c - 1) i = true) (hk1 : inB m.s m.s (l.length : Int) = true) (hk2 : daB l = b) : Calls Try.prog 52 #[.agg #[.int .i64 m.v, .int .i64 m.c, .int .i64 m.s, .int .i64 m.r, .int .i64 m.t], .int .i64 i, v] w fun e w' => e = .returned (.bool (ftB m i l)) ∧ Below w.heap.size w w' := by
  have HK0 := Lib.hid hk0
  have HK1 := Lib.hid hk1
  have HK2 := Lib.hid hk2
  have HR := Lib.hid (show ftB m i l = b by unfold ftB; rw [if_neg he, hk0, hk1, hk2]; simp)
  clear hk0 hk1 hk2
  have HI := Lib.hid h
  have H0 := Lib.hid (Below.refl w.heap.size w)
  have H1 := Lib.hid (keep2 (al w (.cells #[.int .i64 m.v, .int .i64 m.c, .int .i64 m.s, .int .i64 m.r, .int .i64 m.t] 24)) H0.out)
  clear H0
  have H2 := Lib.hid (Cs.new w (w.heap.size) #[.int .i64 m.v, .int .i64 m.c, .int .i64 m.s, .int .i64 m.r, .int .i64 m.t] 24 (by simp))
  obtain ⟨⟨-, -⟩, ⟨c1, c9⟩, ⟨s1, s9⟩, -, -⟩ := mfB_parts hm
  clear hm
  obtain ⟨p, cap, rfl, hl, -⟩ := h
  unfold maxLen at hl
  have t1 : wrap64 (m.c - 1) = m.c - 1 := IntWalk.wrap64_in _ (by omega)
  have t2 : (i == m.c - 1) = false := by simpa using he
  go_enter Try.func52, Try.ntmps52
  have xm0 : (w.alloc (.cells #[.int .i64 m.v, .int .i64 m.c, .int .i64 m.s, .int .i64 m.r, .int .i64 m.t] 24)).cell? ⟨(w.heap.size), 0, none⟩ = some (.int .i64 m.v) := H2.out.c 0 rfl
  have xm1 : (w.alloc (.cells #[.int .i64 m.v, .int .i64 m.c, .int .i64 m.s, .int .i64 m.r, .int .i64 m.t] 24)).cell? ⟨(w.heap.size), 1, none⟩ = some (.int .i64 m.c) := H2.out.c 1 rfl
  have xm2 : (w.alloc (.cells #[.int .i64 m.v, .int .i64 m.c, .int .i64 m.s, .int .i64 m.r, .int .i64 m.t] 24)).cell? ⟨(w.heap.size), 2, none⟩ = some (.int .i64 m.s) := H2.out.c 2 rfl
  have xm3 : (w.alloc (.cells #[.int .i64 m.v, .int .i64 m.c, .int .i64 m.s, .int .i64 m.r, .int .i64 m.t] 24)).cell? ⟨(w.heap.size), 3, none⟩ = some (.int .i64 m.r) := H2.out.c 3 rfl
  have xm4 : (w.alloc (.cells #[.int .i64 m.v, .int .i64 m.c, .int .i64 m.s, .int .i64 m.r, .int .i64 m.t] 24)).cell? ⟨(w.heap.size), 4, none⟩ = some (.int .i64 m.t) := H2.out.c 4 rfl
  have zm : (w.heap.size) < (w.alloc (.cells #[.int .i64 m.v, .int .i64 m.c, .int .i64 m.s, .int .i64 m.r, .int .i64 m.t] 24)).heap.size := H2.out.2.2
  go_wp2_with fail
  have H4 := Lib.hid (H2.out.step (al (w.alloc (.cells #[.int .i64 m.v, .int .i64 m.c, .int .i64 m.s, .int .i64 m.r, .int .i64 m.t] 24)) (.cells #[.int .i64 i] 3)))
  clear H2
  have H5 := Lib.hid (keep2 (al (w.alloc (.cells #[.int .i64 m.v, .int .i64 m.c, .int .i64 m.s, .int .i64 m.r, .int .i64 m.t] 24)) (.cells #[.int .i64 i] 3)) H1.out)
  clear H1
  have H6 := Lib.hid (Cs.new (w.alloc (.cells #[.int .i64 m.v, .int .i64 m.c, .int .i64 m.s, .int .i64 m.r, .int .i64 m.t] 24)) (w.heap.size + 1) #[.int .i64 i] 3 (by simp))
  refine (within_any 0 (m.c - 1) _ [i] _ (ints_lit (w.alloc (.cells #[.int .i64 m.v, .int .i64 m.c, .int .i64 m.s, .int .i64 m.r, .int .i64 m.t] 24)) [i] #[.int .i64 i] 3 rfl (by simp) 1 rfl (w.heap.size + 1) (by simp))).mono ?_
  rintro e wq7 ⟨rfl, rfl⟩
  rw [wi_one, HK0.out]
  clear xm0 xm1 xm2 xm3 xm4 zm
  have xm0 : ((w.alloc (.cells #[.int .i64 m.v, .int .i64 m.c, .int .i64 m.s, .int .i64 m.r, .int .i64 m.t] 24)).alloc (.cells #[.int .i64 i] 3)).cell? ⟨(w.heap.size), 0, none⟩ = some (.int .i64 m.v) := H4.out.c 0 rfl
  have xm1 : ((w.alloc (.cells #[.int .i64 m.v, .int .i64 m.c, .int .i64 m.s, .int .i64 m.r, .int .i64 m.t] 24)).alloc (.cells #[.int .i64 i] 3)).cell? ⟨(w.heap.size), 1, none⟩ = some (.int .i64 m.c) := H4.out.c 1 rfl
  have xm2 : ((w.alloc (.cells #[.int .i64 m.v, .int .i64 m.c, .int .i64 m.s, .int .i64 m.r, .int .i64 m.t] 24)).alloc (.cells #[.int .i64 i] 3)).cell? ⟨(w.heap.size), 2, none⟩ = some (.int .i64 m.s) := H4.out.c 2 rfl
  have xm3 : ((w.alloc (.cells #[.int .i64 m.v, .int .i64 m.c, .int .i64 m.s, .int .i64 m.r, .int .i64 m.t] 24)).alloc (.cells #[.int .i64 i] 3)).cell? ⟨(w.heap.size), 3, none⟩ = some (.int .i64 m.r) := H4.out.c 3 rfl
  have xm4 : ((w.alloc (.cells #[.int .i64 m.v, .int .i64 m.c, .int .i64 m.s, .int .i64 m.r, .int .i64 m.t] 24)).alloc (.cells #[.int .i64 i] 3)).cell? ⟨(w.heap.size), 4, none⟩ = some (.int .i64 m.t) := H4.out.c 4 rfl
  have zm : (w.heap.size) < ((w.alloc (.cells #[.int .i64 m.v, .int .i64 m.c, .int .i64 m.s, .int .i64 m.r, .int .i64 m.t] 24)).alloc (.cells #[.int .i64 i] 3)).heap.size := H4.out.2.2
  go_wp2_with fail
  have H9 := Lib.hid (H4.out.step (al ((w.alloc (.cells #[.int .i64 m.v, .int .i64 m.c, .int .i64 m.s, .int .i64 m.r, .int .i64 m.t] 24)).alloc (.cells #[.int .i64 i] 3)) (.cells #[.int .i64 (l.length : Int)] 3)))
  clear H4
  have H10 := Lib.hid (H6.out.step (al ((w.alloc (.cells #[.int .i64 m.v, .int .i64 m.c, .int .i64 m.s, .int .i64 m.r, .int .i64 m.t] 24)).alloc (.cells #[.int .i64 i] 3)) (.cells #[.int .i64 (l.length : Int)] 3)))
  clear H6
  have H11 := Lib.hid (keep2 (al ((w.alloc (.cells #[.int .i64 m.v, .int .i64 m.c, .int .i64 m.s, .int .i64 m.r, .int .i64 m.t] 24)).alloc (.cells #[.int .i64 i] 3)) (.cells #[.int .i64 (l.length : Int)] 3)) H5.out)
  clear H5
  have H12 := Lib.hid (Cs.new ((w.alloc (.cells #[.int .i64 m.v, .int .i64 m.c, .int .i64 m.s, .int .i64 m.r, .int .i64 m.t] 24)).alloc (.cells #[.int .i64 i] 3)) (w.heap.size + 1 + 1) #[.int .i64 (l.length : Int)] 3 (by simp))
  refine (within_any m.s m.s _ [(l.length : Int)] _ (ints_lit ((w.alloc (.cells #[.int .i64 m.v, .int .i64 m.c, .int .i64 m.s, .int .i64 m.r, .int .i64 m.t] 24)).alloc (.cells #[.int .i64 i] 3)) [(l.length : Int)] #[.int .i64 (l.length : Int)] 3 rfl (by simp) 1 rfl (w.heap.size + 1 + 1) (by simp))).mono ?_
  rintro e wq13 ⟨rfl, rfl⟩
  rw [wi_one, HK1.out]
  clear xm0 xm1 xm2 xm3 xm4 zm
  have xm0 : (((w.alloc (.cells #[.int .i64 m.v, .int .i64 m.c, .int .i64 m.s, .int .i64 m.r, .int .i64 m.t] 24)).alloc (.cells #[.int .i64 i] 3)).alloc (.cells #[.int .i64 (l.length : Int)] 3)).cell? ⟨(w.heap.size), 0, none⟩ = some (.int .i64 m.v) := H9.out.c 0 rfl
  have xm1 : (((w.alloc (.cells #[.int .i64 m.v, .int .i64 m.c, .int .i64 m.s, .int .i64 m.r, .int .i64 m.t] 24)).alloc (.cells #[.int .i64 i] 3)).alloc (.cells #[.int .i64 (l.length : Int)] 3)).cell? ⟨(w.heap.size), 1, none⟩ = some (.int .i64 m.c) := H9.out.c 1 rfl
  have xm2 : (((w.alloc (.cells #[.int .i64 m.v, .int .i64 m.c, .int .i64 m.s, .int .i64 m.r, .int .i64 m.t] 24)).alloc (.cells #[.int .i64 i] 3)).alloc (.cells #[.int .i64 (l.length : Int)] 3)).cell? ⟨(w.heap.size), 2, none⟩ = some (.int .i64 m.s) := H9.out.c 2 rfl
  have xm3 : (((w.alloc (.cells #[.int .i64 m.v, .int .i64 m.c, .int .i64 m.s, .int .i64 m.r, .int .i64 m.t] 24)).alloc (.cells #[.int .i64 i] 3)).alloc (.cells #[.int .i64 (l.length : Int)] 3)).cell? ⟨(w.heap.size), 3, none⟩ = some (.int .i64 m.r) := H9.out.c 3 rfl
  have xm4 : (((w.alloc (.cells #[.int .i64 m.v, .int .i64 m.c, .int .i64 m.s, .int .i64 m.r, .int .i64 m.t] 24)).alloc (.cells #[.int .i64 i] 3)).alloc (.cells #[.int .i64 (l.length : Int)] 3)).cell? ⟨(w.heap.size), 4, none⟩ = some (.int .i64 m.t) := H9.out.c 4 rfl
  have zm : (w.heap.size) < (((w.alloc (.cells #[.int .i64 m.v, .int .i64 m.c, .int .i64 m.s, .int .i64 m.r, .int .i64 m.t] 24)).alloc (.cells #[.int .i64 i] 3)).alloc (.cells #[.int .i64 (l.length : Int)] 3)).heap.size := H9.out.2.2
  go_wp2_with fail
  refine (isData_any _ l _ (HI.out.step H11.out)).mono ?_
  rintro e wq14 ⟨rfl, rfl⟩
  rw [HK2.out]
  go_wp2
  go_ret
  exact ⟨ret_bool HR.out.symm, H11.out⟩
set_option maxRecDepth 100000 in
set_option maxHeartbeats 8000000 in
theorem fit_any (m : Mf) (i : Int) (v : Value) (l : List Int) (w : World) (h : IntsAt w v l) (hm : mfB m = true) : Calls Try.prog 52 #[.agg #[.int .i64 m.v, .int .i64 m.c, .int .i64 m.s, .int .i64 m.r, .int .i64 m.t], .int .i64 i, v] w fun e w' => e = .returned (.bool (ftB m i l)) ∧ Below w.heap.size w w' := by
  by_cases he : i = m.c - 1
  · subst he
    cases h0 : inB 0 (m.c - 1) (m.c - 1)
    · exact fit_y0 m v l w h hm h0
    · cases h1 : inB 1 m.s (l.length : Int)
      · exact fit_y1 m v l w h hm h0 h1
      · exact fit_y2 m v l _ w h hm h0 h1 rfl
  · cases h0 : inB 0 (m.c - 1) i
    · exact fit_n0 m i v l w h hm he h0
    · cases h1 : inB m.s m.s (l.length : Int)
      · exact fit_n1 m i v l w h hm he h0 h1
      · exact fit_n2 m i v l _ w h hm he h0 h1 rfl
end Go.Proofs.Ytiiehoeoaalbmaa
