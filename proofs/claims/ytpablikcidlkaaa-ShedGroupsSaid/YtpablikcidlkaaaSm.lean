/- Shedding: what consumers are; the limits. -/
import Derived.Test.YtpablikcidlkaaaSl
namespace Go.Proofs.Ytpablikcidlkaaa
open Go.RowKit

def wiB (n m : Int) : Bool := decide (0 ≤ n) && decide (n ≤ m)
theorem within_q (n m : Int) (b : Bool) (h : wiB n m = b) (w : World) : Calls Try.prog 22 #[.int .i64 n, .int .i64 m] w fun e w' => e = .returned (.bool b) ∧ w = w' := by
  subst h
  unfold wiB
  by_cases h1 : 0 ≤ n
  · by_cases h2 : n ≤ m
    · have HR := Lib.hid (show (decide (0 ≤ n) && decide (n ≤ m)) = true by simp [h1, h2])
      go_enter Try.func22, Try.ntmps22
      go_wp2
      go_ret
      exact ⟨ret_bool HR.out.symm, rfl⟩
    · have HR := Lib.hid (show false = decide (n ≤ m) by simp; omega)
      go_enter Try.func22, Try.ntmps22
      go_wp2
      go_ret
      exact ⟨ret_bool HR.out, rfl⟩
  · have HR := Lib.hid (show (decide (0 ≤ n) && decide (n ≤ m)) = false by simp [h1])
    go_enter Try.func22, Try.ntmps22
    go_wp2
    go_ret
    exact ⟨ret_bool HR.out.symm, rfl⟩
/-- No consumer at all. -/
def bad (c : Int × Int) : Bool := !(wiB c.1 1000000 && wiB c.2 100)
def acB (l : List (Int × Int)) : Bool := decide (l.length ≤ 500) && !l.any bad
theorem any_hit {l : List (Int × Int)} {k : Nat} (h : k < l.length) (hb : bad (l.getD k (0, 0)) = true) : l.any bad = true := by
  rw [List.any_eq_true]
  exact ⟨l[k], List.getElem_mem h, by rwa [show l.getD k (0, 0) = l[k] by simp [h]] at hb⟩
theorem any_none {l : List (Int × Int)} (h : ∀ j, j < l.length → bad (l.getD j (0, 0)) = false) : l.any bad = false := by
  rw [List.any_eq_false]
  intro x hx
  obtain ⟨j, hj, rfl⟩ := List.mem_iff_getElem.1 hx
  have := h j hj
  rw [show l.getD j (0, 0) = l[j] by simp [hj]] at this
  rw [this]; simp
theorem isBad_any (p q : Int) (b : Bool) (h : bad (p, q) = b) (w : World) : Calls Try.prog 29 #[.agg #[.int .i64 p, .int .i64 q]] w fun e w' => e = .returned (.bool b) ∧ Below w.heap.size w w' := by
  subst h
  have HB := Lib.hid (al w (.cells #[.int .i64 p, .int .i64 q] 34))
  cases h1 : wiB p 1000000
  · have HR := Lib.hid (show bad (p, q) = true by unfold bad; simp [h1])
    have H1 := Lib.hid h1
    clear h1
    go_enter Try.func29, Try.ntmps29
    go_wp2_with fail
    refine (within_q p 1000000 _ H1.out _).mono ?_
    rintro e w' ⟨rfl, rfl⟩
    go_wp2
    go_ret
    exact ⟨ret_bool HR.out.symm, HB.out⟩
  · cases h2 : wiB q 100
    · have HR := Lib.hid (show bad (p, q) = true by unfold bad; simp [h1, h2])
      have H1 := Lib.hid h1
      have H2 := Lib.hid h2
      clear h1 h2
      go_enter Try.func29, Try.ntmps29
      go_wp2_with fail
      refine (within_q p 1000000 _ H1.out _).mono ?_
      rintro e w' ⟨rfl, rfl⟩
      go_wp2_with fail
      refine (within_q q 100 _ H2.out _).mono ?_
      rintro e w' ⟨rfl, rfl⟩
      go_wp2
      go_ret
      exact ⟨ret_bool HR.out.symm, HB.out⟩
    · have HR := Lib.hid (show bad (p, q) = false by unfold bad; simp [h1, h2])
      have H1 := Lib.hid h1
      have H2 := Lib.hid h2
      clear h1 h2
      go_enter Try.func29, Try.ntmps29
      go_wp2_with fail
      refine (within_q p 1000000 _ H1.out _).mono ?_
      rintro e w' ⟨rfl, rfl⟩
      go_wp2_with fail
      refine (within_q q 100 _ H2.out _).mono ?_
      rintro e w' ⟨rfl, rfl⟩
      go_wp2
      go_ret
      exact ⟨ret_bool HR.out.symm, HB.out⟩
set_option maxRecDepth 100000 in
set_option maxHeartbeats 1000000 in
theorem indexFunc_any (v : Value) (l : List (Int × Int)) (w : World) (h : ConsAt w v l) :
    Calls Try.prog 32 #[v, .func (.func 29) #[] #[]] w fun e w' => (∃ k : Int, e = .returned (.int .i64 k) ∧ decide (0 ≤ k) = l.any bad) ∧ Below w.heap.size w w' := by
  have HL := Lib.hid h
  obtain ⟨a, cap, rfl, hcp, hm, hc⟩ := h
  unfold maxLen at hm
  clear hc hcp
  have heg : ∀ args w, (callFunc 29 args).run Try.prog w = .ok (.enter 29 args) w := fun _ _ => by kernel_rfl
  go_enter Try.func32, Try.ntmps32
  go_wp2_with fail
  go_loopw [8] (fun i wr => ∃ k : Nat, k ≤ l.length ∧ i = .int .i64 k ∧ Hid (∀ j, j < k → bad (l.getD j (0, 0)) = false) ∧ Hid (Below w.heap.size w wr)) (fun i _ => l.length - (intOf i).toNat)
  case atStart => exact ⟨0, by omega, rfl, fun j h => absurd h (by omega), Below.refl _ _⟩
  case round =>
    obtain ⟨k, hk, rfl, HN, HB⟩ := hrel
    by_cases hlt : k < l.length
    · obtain ⟨a2, cap2, hva, -, -, hcs⟩ := HL.out.step HB.out
      obtain ⟨rfl, rfl⟩ : a = a2 ∧ cap = cap2 := by simpa using hva
      obtain ⟨b, off, rfl, hcs2⟩ := hcs (by intro h; rw [h] at hlt; simp at hlt)
      obtain ⟨x0, x1⟩ := hcs2 k _ (win_get (d := (0, 0)) hlt)
      clear hcs hcs2 hva
      cases hf : bad (l.getD k (0, 0))
      · have HN2 := Lib.hid (show ∀ j, j < k + 1 → bad (l.getD j (0, 0)) = false from fun j h => by
          by_cases e : j = k
          · subst e; exact hf
          · exact HN.out j (by omega))
        clear HN
        generalize l.getD k (0, 0) = x at *
        obtain ⟨xk, xv⟩ := x
        have HF := Lib.hid hf
        clear hf
        simp only at x0 x1
        go_wp2_with fail
        refine (isBad_any xk xv _ HF.out _).mono ?_
        rintro e w' ⟨rfl, b1⟩
        have HB2 := Lib.hid (keep2 b1 HB.out)
        clear b1 x0 x1
        go_wp2
        go_roundw
        case rel => exact ⟨k + 1, by omega, by go_num, HN2, HB2⟩
        case measure => simp [intOf]; omega
      · have HA := Lib.hid (any_hit hlt hf)
        clear HN
        generalize l.getD k (0, 0) = x at *
        obtain ⟨xk, xv⟩ := x
        have HF := Lib.hid hf
        clear hf
        simp only at x0 x1
        go_wp2_with fail
        refine (isBad_any xk xv _ HF.out _).mono ?_
        rintro e w' ⟨rfl, b1⟩
        have HB2 := Lib.hid (keep2 b1 HB.out)
        clear b1 x0 x1
        go_wp2
        go_ret
        exact ⟨⟨k, rfl, by rw [HA.out]; simp⟩, HB2.out⟩
    · have HF := Lib.hid (any_none fun j hj => HN.out j (by omega))
      go_wp2
      go_ret
      exact ⟨⟨-1, rfl, by rw [HF.out]; rfl⟩, HB.out⟩
theorem contains_any (v : Value) (l : List (Int × Int)) (w : World) (h : ConsAt w v l) :
    Calls Try.prog 30 #[v, .func (.func 29) #[] #[]] w fun e w' => e = .returned (.bool (l.any bad)) ∧ Below w.heap.size w w' := by
  have H := Lib.hid h
  clear h
  go_enter Try.func30, Try.ntmps30
  go_wp2_with fail
  refine (indexFunc_any v l _ H.out).mono ?_
  rintro e w' ⟨⟨k, rfl, hk⟩, b1⟩
  have HK := Lib.hid hk
  have HB := Lib.hid b1
  clear hk b1
  go_wp2
  go_ret
  exact ⟨ret_bool HK.out, HB.out⟩
set_option maxRecDepth 100000 in
theorem are_q (v : Value) (l : List (Int × Int)) (w : World) (h : ConsAt w v l) (b : Bool) (hb : acB l = b) : Calls Try.prog 21 #[v] w fun e w' => e = .returned (.bool b) ∧ Below w.heap.size w w' := by
  subst hb
  have H := Lib.hid h
  obtain ⟨a, cap, rfl, -, hm, -⟩ := h
  unfold maxLen at hm
  by_cases h3 : l.length ≤ 500
  · have h4 : decide ((l.length : Int) ≤ 500) = true := by simp; omega
    have h5 : (l.length : Int) ≤ 500 := by omega
    have HR := Lib.hid (show acB l = !l.any bad by unfold acB; simp [h3])
    clear h3 hm
    go_enter Try.func21, Try.ntmps21
    go_wp2_with fail
    refine (contains_any _ l _ H.out).mono ?_
    rintro e w1 ⟨rfl, b1⟩
    have HB1 := Lib.hid b1
    clear b1
    go_wp2
    go_ret
    exact ⟨ret_bool HR.out.symm, HB1.out⟩
  · have h4 : decide ((l.length : Int) ≤ 500) = false := by simp; omega
    have h5 : ¬ (l.length : Int) ≤ 500 := by omega
    have HR := Lib.hid (show acB l = false by unfold acB; simp [h3])
    clear h3
    go_enter Try.func21, Try.ntmps21
    go_wp2
    go_ret
    exact ⟨ret_bool HR.out.symm, Below.refl _ _⟩
theorem acB_len {l : List (Int × Int)} (h : acB l = true) : l.length ≤ 500 := by
  unfold acB at h
  simp at h
  exact h.1
theorem acB_pow {l : List (Int × Int)} (h : acB l = true) (i : Nat) : 0 ≤ pow l i ∧ pow l i ≤ 1000000 := by
  unfold acB at h
  simp only [Bool.and_eq_true, decide_eq_true_eq, Bool.not_eq_true'] at h
  unfold pow
  by_cases hi : i < l.length
  · have := (List.any_eq_false.1 h.2) (l.getD i (0, 0)) (by rw [show l.getD i (0, 0) = l[i] by simp [hi]]; exact List.getElem_mem hi)
    simp [bad, wiB] at this
    simp only [List.getD_eq_getElem?_getD]
    omega
  · have : l.getD i (0, 0) = (0, 0) := by simp [List.getD_eq_getElem?_getD]; rw [List.getElem?_eq_none (by omega)]; rfl
    rw [this]; simp
/-- The limits. -/
theorem lim1_any (i x : Int) (LB : Nat) (w : World) (h : BoxN w LB #[.int .i64 x] 3) : Calls Try.prog 23 #[.int .i64 i, .pointer (some ⟨LB, 0, none⟩)] w fun e w' => e = .returned (.int .i64 x) ∧ w' = w := by
  have c0 := (h.cell 0).trans (rfl : _ = some (Value.int .i64 x))
  have z0 := h.lt
  clear h
  go_enter Try.func23, Try.ntmps23
  go_wp2
  go_ret
  exact ⟨rfl, rfl⟩
/-- A list of truth values behind a slice. -/
def BosAt (w : World) (v : Value) (l : List Bool) : Prop :=
  ∃ a cap, v = .slice a l.length cap ∧ l.length ≤ cap ∧ l.length ≤ maxLen ∧ (l ≠ [] → ∃ b off, a = some ⟨b, off, none⟩ ∧ ∀ (i : Nat) (x : Bool), l[i]? = some x → w.cell? ⟨b, off + i, none⟩ = some (.bool x))
theorem BosAt.step {w w1 : World} {v : Value} {l : List Bool} (h : BosAt w v l) (hb : Below w.heap.size w w1) : BosAt w1 v l := by
  obtain ⟨a, cap, hv, h1, hm, hc⟩ := h
  refine ⟨a, cap, hv, h1, hm, fun hl => ?_⟩
  obtain ⟨b, off, ha, hx⟩ := hc hl
  exact ⟨b, off, ha, fun i x h => keep1 hb (hx i x h)⟩
def lim2 (bf : List Bool) (x m : Int) (i : Nat) : Int := if bf.getD i false = true then x else x - m
theorem lim2_any (i : Nat) (x m : Int) (v : Value) (bf : List Bool) (BB LB MB : Nat) (w : World) (hv : BosAt w v bf) (hi : i < bf.length) (h0 : BoxN w BB #[v] 23) (h1 : BoxN w LB #[.int .i64 x] 3) (h2 : BoxN w MB #[.int .i64 m] 3) (hx : 0 ≤ x ∧ x ≤ 1000000000) (hm : 0 ≤ m ∧ m ≤ 1000000000) :
    Calls Try.prog 25 #[.int .i64 i, .pointer (some ⟨BB, 0, none⟩), .pointer (some ⟨LB, 0, none⟩), .pointer (some ⟨MB, 0, none⟩)] w fun e w' => e = .returned (.int .i64 (lim2 bf x m i)) ∧ w' = w := by
  obtain ⟨a, c, rfl, -, hml, hc⟩ := hv
  obtain ⟨b, off, rfl, hcs⟩ := hc (by intro e; rw [e] at hi; simp at hi)
  have y0 := hcs i _ (win_get (d := false) hi)
  have c0 := (h0.cell 0).trans (rfl : _ = some (Value.slice (some ⟨b, off, none⟩) bf.length c))
  have c1 := (h1.cell 0).trans (rfl : _ = some (Value.int .i64 x))
  have c2 := (h2.cell 0).trans (rfl : _ = some (Value.int .i64 m))
  have z0 := h0.lt
  have z1 := h1.lt
  have z2 := h2.lt
  have z3 : b < w.heap.size := World.block_lt_of_cell? _ _ y0
  clear h0 h1 h2 hcs hc
  unfold lim2
  unfold maxLen at hml
  have t1 : (i : Int) < (bf.length : Int) := by omega
  generalize bf.getD i false = t at *
  cases t
  · go_enter Try.func25, Try.ntmps25
    go_wp2
    go_ret
    exact ⟨by simp, rfl⟩
  · go_enter Try.func25, Try.ntmps25
    go_wp2
    go_ret
    exact ⟨by simp, rfl⟩
/-- The order of priority. -/
def ordL (P : Nat → Int) (n : Nat) : List Nat := ins P 0 n (List.range' 0 n)
theorem ord_is (P : Nat → Int) (n : Nat) : IsST P 0 n (ordL P n) := by
  obtain ⟨s, h1, h2⟩ := ins_st P [] [] 0 n rfl (by omega)
  simp only [List.nil_append, List.append_nil, Nat.sub_zero] at h1
  unfold ordL
  rw [h1]
  exact h2
/-- Who is kept. -/
def kpL (l : List (Int × Int)) (lim : Nat → Int) : List Bool := (kfo l lim (ordL (pri l) l.length)).2
theorem kp_is {l : List (Int × Int)} {lim : Nat → Int} {s : List Nat} (h : IsST (pri l) 0 l.length s) : (kfo l lim s).2 = kpL l lim := by unfold kpL; rw [h.eq (ord_is _ _)]
theorem kp_len (l : List (Int × Int)) (lim : Nat → Int) : (kpL l lim).length = l.length := kfo_len _ _ _
theorem bos_box {w : World} {g : Nat} {s : List Bool} {n : Nat} (h : BoxN w g (bArr s) 4) (hn : s.length = n) (hm : n ≤ 100000) : BosAt w (.slice (some ⟨g, 0, none⟩) n n) s :=
  ⟨_, n, by rw [hn], by rw [hn]; exact Nat.le_refl _, by unfold maxLen; omega, fun _ => ⟨g, 0, rfl, fun i x hx => by rw [Nat.zero_add, h.cell i]; unfold bArr; simp [hx]⟩⟩
end Go.Proofs.Ytpablikcidlkaaa
