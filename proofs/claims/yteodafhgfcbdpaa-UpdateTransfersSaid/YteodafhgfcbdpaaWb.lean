import Derived.Test.YteodafhgfcbdpaaUt
import Derived.Test.YteodafhgfcbdpaaWa
namespace Go.Proofs.Yteodafhgfcbdpaa
open Go.RowKit

/-- A list of bytes in memory. -/
def BysAt (w : World) (v : Value) (l : List Int) : Prop :=
  ∃ a cap, v = .slice a l.length cap ∧ l.length ≤ cap ∧ l.length ≤ maxLen ∧ (l ≠ [] → ∃ b off, a = some ⟨b, off, none⟩ ∧ ∀ (i : Nat) (x : Int), l[i]? = some x → w.cell? ⟨b, off + i, none⟩ = some (.int .u8 x))
theorem BysAt.step {w w1 : World} {v : Value} {l : List Int} (h : BysAt w v l) (hb : Below w.heap.size w w1) : BysAt w1 v l := by
  obtain ⟨a, cap, hv, hk, hm, hc⟩ := h
  refine ⟨a, cap, hv, hk, hm, fun hl => ?_⟩
  obtain ⟨b, off, ha, hx⟩ := hc hl
  exact ⟨b, off, ha, fun i x h => keep1 hb (hx i x h)⟩
def IsBy (l : List Int) : Prop := ∀ x ∈ l, 0 ≤ x ∧ x ≤ 255
/-- The Booleans 'added'. -/
def AdW (w : World) (g n : Nat) (f : Nat → Bool) : Prop := ∃ vs : Array Value, BoxN w g vs 4 ∧ vs.size = n ∧ ∀ j, j < n → vs[j]? = some (.bool (f j))
theorem AdW.new (w : World) (n : Nat) : AdW (w.alloc (.cells (Array.replicate n (.bool false)) 4)) w.heap.size n (fun _ => false) := ⟨_, BoxN.new w _ 4, by simp, fun j hj => by simp [hj]⟩
theorem AdW.step {w w' : World} {g n : Nat} {f : Nat → Bool} (h : AdW w g n f) (hb : Below w.heap.size w w') : AdW w' g n f := by
  obtain ⟨vs, h1, h2⟩ := h
  exact ⟨vs, h1.step hb, h2⟩
theorem AdW.lt {w : World} {g n : Nat} {f : Nat → Bool} (h : AdW w g n f) : g < w.heap.size := by
  obtain ⟨vs, h1, h2⟩ := h
  exact h1.lt
theorem AdW.c {w : World} {g n : Nat} {f : Nat → Bool} (h : AdW w g n f) {k : Nat} (hk : k < n) : w.cell? ⟨g, k, none⟩ = some (.bool (f k)) := by
  obtain ⟨vs, h1, h2, h3⟩ := h
  rw [h1.cell, h3 k hk]
theorem AdW.frz {w : World} {g n : Nat} {f : Nat → Bool} (h : AdW w g n f) (k : Nat) : w.frozen? ⟨g, k, none⟩ = false := by
  obtain ⟨vs, h1, -⟩ := h
  exact h1.frz k
theorem AdW.ty {w : World} {g n : Nat} {f : Nat → Bool} (h : AdW w g n f) : tyB w g = some 4 := by
  obtain ⟨vs, h1, -⟩ := h
  exact tyB_box h1
theorem AdW.set {w : World} {g n k : Nat} {f : Nat → Bool} (h : AdW w g n f) (hk : k < n) : AdW (w.setCell ⟨g, k, none⟩ (.bool true)) g n (fun j => j == k || f j) := by
  obtain ⟨vs, h1, h2, h3⟩ := h
  refine ⟨_, h1.set k (.bool true) rfl, by simp [h2], fun j hj => ?_⟩
  rw [Array.getElem?_setIfInBounds]
  by_cases e : k = j
  · subst e; simp [h2, hk]
  · have : ¬ j = k := fun q => e q.symm
    simp [e, h3 j hj, this]
theorem AdW.away {w : World} {g n B : Nat} {f : Nat → Bool} (h : AdW w g n f) (hne : g ≠ B) (j : Nat) (x : Value) : AdW (w.setCell ⟨B, j, none⟩ x) g n f := by
  obtain ⟨vs, h1, h2⟩ := h
  exact ⟨vs, h1.away hne j x, h2⟩
theorem AdW.putS {w : World} {g n B : Nat} {f : Nat → Bool} (h : AdW w g n f) (hne : g ≠ B) (m : Mf) (v : Value) : AdW (putS w B m v) g n f :=
  (((((h.away hne 0 _).away hne 1 _).away hne 2 _).away hne 3 _).away hne 4 _).away hne 5 _
theorem und49 : Try.prog.underlying 49 = some (.slice 4) := by kernel_rfl
theorem infoBo : (Try.prog.info? 4).map (fun i => (i.zero, i.size, i.bytes)) = some (some (.bool false), 1, 1) := by kernel_rfl
theorem hmkB (c : Int) (n : Nat) (hc : c = n) (hn : n ≤ 100000) : ∀ w, (Instr.makeSlice 49 (.int .i64 c) (.int .i64 c)).run Try.prog w = .ok (.slice (some ⟨w.heap.size, 0, none⟩) n n) (w.alloc (.cells (Array.replicate n (.bool false)) 4)) := fun w => by
  obtain ⟨i, hi, hz, hs, hb⟩ := info_parts infoBo
  have := run_makeSlice (P := Try.prog) w 49 4 i (.bool false) und49 hi hz .i64 .i64 c c (by omega) (Int.le_refl _) (by rw [hs]; omega) (by rw [hb]; omega) (by omega)
  rw [this, hs, hc, Int.toNat_natCast, made_one _ _ rfl]
set_option maxRecDepth 100000 in
set_option maxHeartbeats 8000000 in
theorem tf_long (key ver s : Int) (v : Value) (D : List Int) (ov : Value) (os : List Int) (w : World) (h : IntsAt w v D) (hcp : ∀ a n c, v = .slice a n c → n ≤ c) (ho : BysAt w ov os) (hob : IsBy os) (hL : 200 < D.length) : Calls Try.prog 4 #[.int .i64 key, .int .i64 ver, .int .i64 s, v, ov] w fun e w' => e = .returned (.bool true) ∧ Below w.heap.size w w' := by
  have H0 := Lib.hid (Below.refl w.heap.size w)
  have H1 := Lib.hid (h)
  have H2 := Lib.hid (ho)
  replace hob := Lib.hid hob
  obtain ⟨va, vc, rfl, hm, -⟩ := h
  unfold maxLen at hm
  replace hm := Lib.hid hm
  have HCP := Lib.hid hcp
  replace hcp := Lib.hid (hcp _ _ _ rfl)
  obtain ⟨oa, oc, rfl, -, -, -⟩ := ho
  replace hL := Lib.hid hL
  go_enter Try.func4, Try.ntmps4
  go_wp2_with fail
  refine (head_any _).mono ?_
  rintro e u1 ⟨rfl, b1⟩
  have H3 := Lib.hid (H1.out.step b1)
  clear H1
  have H4 := Lib.hid (H2.out.step b1)
  clear H2
  have H5 := Lib.hid (keep2 b1 H0.out)
  clear H0
  clear b1
  have g1 : decide ((D.length : Int) > 200) = true := by simp; have := hL.out; omega
  have g1b : decide ((200 : Int) < (D.length : Int)) = true := by simp; have := hL.out; omega
  go_wp2
  go_ret
  exact ⟨rfl, H5.out⟩
set_option maxRecDepth 100000 in
set_option maxHeartbeats 8000000 in
theorem tf_lo (key ver s : Int) (v : Value) (D : List Int) (ov : Value) (os : List Int) (w : World) (h : IntsAt w v D) (hcp : ∀ a n c, v = .slice a n c → n ≤ c) (ho : BysAt w ov os) (hob : IsBy os) (hL : D.length ≤ 200) (hO : 40 < os.length) : Calls Try.prog 4 #[.int .i64 key, .int .i64 ver, .int .i64 s, v, ov] w fun e w' => e = .returned (.bool true) ∧ Below w.heap.size w w' := by
  have H0 := Lib.hid (Below.refl w.heap.size w)
  have H1 := Lib.hid (h)
  have H2 := Lib.hid (ho)
  replace hob := Lib.hid hob
  obtain ⟨va, vc, rfl, hm, -⟩ := h
  unfold maxLen at hm
  replace hm := Lib.hid hm
  have HCP := Lib.hid hcp
  replace hcp := Lib.hid (hcp _ _ _ rfl)
  obtain ⟨oa, oc, rfl, -, -, -⟩ := ho
  replace hL := Lib.hid hL
  replace hO := Lib.hid hO
  go_enter Try.func4, Try.ntmps4
  go_wp2_with fail
  refine (head_any _).mono ?_
  rintro e u1 ⟨rfl, b1⟩
  have H3 := Lib.hid (H1.out.step b1)
  clear H1
  have H4 := Lib.hid (H2.out.step b1)
  clear H2
  have H5 := Lib.hid (keep2 b1 H0.out)
  clear H0
  clear b1
  have g1 : decide ((D.length : Int) > 200) = false := by simp; have := hL.out; omega
  have g1b : decide ((200 : Int) < (D.length : Int)) = false := by simp; have := hL.out; omega
  have g2 : decide ((os.length : Int) > 40) = true := by simp; have := hO.out; omega
  have g2b : decide ((40 : Int) < (os.length : Int)) = true := by simp; have := hO.out; omega
  go_wp2
  go_ret
  exact ⟨rfl, H5.out⟩
set_option maxRecDepth 100000 in
set_option maxHeartbeats 8000000 in
theorem tf_bad (key ver s : Int) (v : Value) (D : List Int) (ov : Value) (os : List Int) (w : World) (h : IntsAt w v D) (hcp : ∀ a n c, v = .slice a n c → n ≤ c) (ho : BysAt w ov os) (hob : IsBy os) (hL : D.length ≤ 200) (hO : os.length ≤ 40) (hN : spE key ver s D ≠ 0) : Calls Try.prog 4 #[.int .i64 key, .int .i64 ver, .int .i64 s, v, ov] w fun e w' => e = .returned (.bool true) ∧ Below w.heap.size w w' := by
  have H0 := Lib.hid (Below.refl w.heap.size w)
  have H1 := Lib.hid (h)
  have H2 := Lib.hid (ho)
  replace hob := Lib.hid hob
  obtain ⟨va, vc, rfl, hm, -⟩ := h
  unfold maxLen at hm
  replace hm := Lib.hid hm
  have HCP := Lib.hid hcp
  replace hcp := Lib.hid (hcp _ _ _ rfl)
  obtain ⟨oa, oc, rfl, -, -, -⟩ := ho
  replace hL := Lib.hid hL
  replace hO := Lib.hid hO
  replace hN := Lib.hid hN
  go_enter Try.func4, Try.ntmps4
  go_wp2_with fail
  refine (head_any _).mono ?_
  rintro e u1 ⟨rfl, b1⟩
  have H3 := Lib.hid (H1.out.step b1)
  clear H1
  have H4 := Lib.hid (H2.out.step b1)
  clear H2
  have H5 := Lib.hid (keep2 b1 H0.out)
  clear H0
  clear b1
  have g1 : decide ((D.length : Int) > 200) = false := by simp; have := hL.out; omega
  have g1b : decide ((200 : Int) < (D.length : Int)) = false := by simp; have := hL.out; omega
  have g2 : decide ((os.length : Int) > 40) = false := by simp; have := hO.out; omega
  have g2b : decide ((40 : Int) < (os.length : Int)) = false := by simp; have := hO.out; omega
  go_wp2_with fail
  clear g1 g1b g2 g2b
  refine (begun_n key ver s _ D _ H3.out HCP.out hN.out).mono ?_
  rintro e u2 ⟨pcv, sv, rfl, -, -, hn0, b2⟩
  have H6 := Lib.hid (H3.out.step b2)
  clear H3
  have H7 := Lib.hid (H4.out.step b2)
  clear H4
  have H8 := Lib.hid (keep2 b2 H5.out)
  clear H5
  clear b2
  dsimp only [zMf]
  obtain ⟨uba, ubc, rfl⟩ : ∃ (a : Option Addr) (c : Nat), sv = .slice a 0 c := by
    obtain ⟨a, c, e, -⟩ := hn0.1
    exact ⟨a, c, e⟩
  clear hn0
  have H9 := Lib.hid (H6.out.step (al u2 (.cells #[.int .i64 0, .int .i64 0, .int .i64 0, .int .i64 0, .int .i64 0, .slice uba 0 ubc] 27)))
  clear H6
  have H10 := Lib.hid (H7.out.step (al u2 (.cells #[.int .i64 0, .int .i64 0, .int .i64 0, .int .i64 0, .int .i64 0, .slice uba 0 ubc] 27)))
  clear H7
  have H11 := Lib.hid (keep2 (al u2 (.cells #[.int .i64 0, .int .i64 0, .int .i64 0, .int .i64 0, .int .i64 0, .slice uba 0 ubc] 27)) H8.out)
  clear H8
  have H12 := Lib.hid (Cs.new u2 (u2.heap.size) #[.int .i64 0, .int .i64 0, .int .i64 0, .int .i64 0, .int .i64 0, .slice uba 0 ubc] 27 (by simp))
  have xs0 : (u2.alloc (.cells #[.int .i64 0, .int .i64 0, .int .i64 0, .int .i64 0, .int .i64 0, .slice uba 0 ubc] 27)).cell? ⟨(u2.heap.size), 0, none⟩ = some (.int .i64 0) := H12.out.c 0 rfl
  have xs1 : (u2.alloc (.cells #[.int .i64 0, .int .i64 0, .int .i64 0, .int .i64 0, .int .i64 0, .slice uba 0 ubc] 27)).cell? ⟨(u2.heap.size), 1, none⟩ = some (.int .i64 0) := H12.out.c 1 rfl
  have xs2 : (u2.alloc (.cells #[.int .i64 0, .int .i64 0, .int .i64 0, .int .i64 0, .int .i64 0, .slice uba 0 ubc] 27)).cell? ⟨(u2.heap.size), 2, none⟩ = some (.int .i64 0) := H12.out.c 2 rfl
  have xs3 : (u2.alloc (.cells #[.int .i64 0, .int .i64 0, .int .i64 0, .int .i64 0, .int .i64 0, .slice uba 0 ubc] 27)).cell? ⟨(u2.heap.size), 3, none⟩ = some (.int .i64 0) := H12.out.c 3 rfl
  have xs4 : (u2.alloc (.cells #[.int .i64 0, .int .i64 0, .int .i64 0, .int .i64 0, .int .i64 0, .slice uba 0 ubc] 27)).cell? ⟨(u2.heap.size), 4, none⟩ = some (.int .i64 0) := H12.out.c 4 rfl
  have xs5 : (u2.alloc (.cells #[.int .i64 0, .int .i64 0, .int .i64 0, .int .i64 0, .int .i64 0, .slice uba 0 ubc] 27)).cell? ⟨(u2.heap.size), 5, none⟩ = some (.slice uba 0 ubc) := H12.out.c 5 rfl
  have zs : (u2.heap.size) < (u2.alloc (.cells #[.int .i64 0, .int .i64 0, .int .i64 0, .int .i64 0, .int .i64 0, .slice uba 0 ubc] 27)).heap.size := H12.out.2.2
  go_wp2
  go_ret
  exact ⟨rfl, H11.out⟩
set_option maxRecDepth 100000 in
set_option maxHeartbeats 8000000 in
theorem tf_main (key ver s : Int) (v : Value) (D : List Int) (ov : Value) (os : List Int) (w : World) (h : IntsAt w v D) (hcp : ∀ a n c, v = .slice a n c → n ≤ c) (ho : BysAt w ov os) (hob : IsBy os) (hL : D.length ≤ 200) (hO : os.length ≤ 40) (hE : spE key ver s D = 0) (M : Mf) (l : List Pc) (n sn : Nat) (hM : spM key ver s D 0 = M) (hl : spL s D 0 = l) (hln : l.length = n) (hS : SpW sn n D M) (hpl : ∀ k, k < n → l[k]? = some ⟨(k : Int), chk sn D k, pthL (rowsT (lvs (chL sn D))) k⟩) : Calls Try.prog 4 #[.int .i64 key, .int .i64 ver, .int .i64 s, v, ov] w fun e w' => e = .returned (.bool true) ∧ Below w.heap.size w w' := by
  have H0 := Lib.hid (Below.refl w.heap.size w)
  have H1 := Lib.hid (h)
  have H2 := Lib.hid (ho)
  replace hob := Lib.hid hob
  obtain ⟨va, vc, rfl, hm, -⟩ := h
  unfold maxLen at hm
  replace hm := Lib.hid hm
  have HCP := Lib.hid hcp
  replace hcp := Lib.hid (hcp _ _ _ rfl)
  obtain ⟨oa, oc, rfl, -, -, -⟩ := ho
  replace hL := Lib.hid hL
  replace hO := Lib.hid hO
  replace hE := Lib.hid hE
  replace hM := Lib.hid hM
  replace hl := Lib.hid hl
  replace hln := Lib.hid hln
  replace hS := Lib.hid hS
  replace hpl := Lib.hid hpl
  go_enter Try.func4, Try.ntmps4
  go_wp2_with fail
  refine (head_any _).mono ?_
  rintro e u1 ⟨rfl, b1⟩
  have H3 := Lib.hid (H1.out.step b1)
  clear H1
  have H4 := Lib.hid (H2.out.step b1)
  clear H2
  have H5 := Lib.hid (keep2 b1 H0.out)
  clear H0
  clear b1
  have g1 : decide ((D.length : Int) > 200) = false := by simp; have := hL.out; omega
  have g1b : decide ((200 : Int) < (D.length : Int)) = false := by simp; have := hL.out; omega
  have g2 : decide ((os.length : Int) > 40) = false := by simp; have := hO.out; omega
  have g2b : decide ((40 : Int) < (os.length : Int)) = false := by simp; have := hO.out; omega
  go_wp2_with fail
  clear g1 g1b g2 g2b
  refine (begun_y key ver s _ D _ H3.out HCP.out hE.out M l n hM.out hl.out hln.out).mono ?_
  rintro e u2 ⟨pcv, sv, rfl, hpc, h64, hn0, b2⟩
  have H6 := Lib.hid (H3.out.step b2)
  clear H3
  have H7 := Lib.hid (H4.out.step b2)
  clear H4
  have H8 := Lib.hid (keep2 b2 H5.out)
  clear H5
  clear b2
  replace h64 := Lib.hid h64
  have hpa := hpc.at (by have := h64.out; omega)
  obtain ⟨ua, uc, rfl⟩ : ∃ (a : Option Addr) (c : Nat), pcv = .slice a l.length c := by
    obtain ⟨a, c, e, -⟩ := hpa
    exact ⟨a, c, e⟩
  obtain ⟨uba, ubc, rfl⟩ : ∃ (a : Option Addr) (c : Nat), sv = .slice a n c := by
    obtain ⟨a, c, e, -⟩ := hn0.1
    rw [List.length_replicate] at e
    exact ⟨a, c, e⟩
  have how0 := hn0.own
  rw [← lf_none sn n D] at how0
  have H9 := Lib.hid (hpa)
  have H10 := Lib.hid (how0)
  clear hpa hn0 hpc how0
  obtain ⟨U0, hU0⟩ : ∃ z9, u2 = z9 := ⟨_, rfl⟩
  rw [hU0] at H6 H7 H9 H10 H8 ⊢
  clear hU0
  have PU := H9
  have OU := H7
  have IU := H6
  have BU := H8
  clear H9
  clear H7
  clear H6
  have H11 := Lib.hid (H10.out.step (al U0 (.cells #[.int .i64 M.v, .int .i64 M.c, .int .i64 M.s, .int .i64 M.r, .int .i64 M.t, .slice uba n ubc] 27)))
  clear H10
  have H12 := Lib.hid (keep2 (al U0 (.cells #[.int .i64 M.v, .int .i64 M.c, .int .i64 M.s, .int .i64 M.r, .int .i64 M.t, .slice uba n ubc] 27)) H8.out)
  clear H8
  have H13 := Lib.hid (Cs.new U0 (U0.heap.size) #[.int .i64 M.v, .int .i64 M.c, .int .i64 M.s, .int .i64 M.r, .int .i64 M.t, .slice uba n ubc] 27 (by simp))
  have HS0 := Lib.hid ((BoxN.new U0 #[.int .i64 M.v, .int .i64 M.c, .int .i64 M.s, .int .i64 M.r, .int .i64 M.t, .slice uba n ubc] 27).step (al (U0.alloc (.cells #[.int .i64 M.v, .int .i64 M.c, .int .i64 M.s, .int .i64 M.r, .int .i64 M.t, .slice uba n ubc] 27)) (.cells (Array.replicate n (.bool false)) 4)))
  have hmk := hmkB (n : Int) n rfl (by have := hS.out.n2; omega)
  rw [hln.out]
  have H14 := Lib.hid (H11.out.step (al (U0.alloc (.cells #[.int .i64 M.v, .int .i64 M.c, .int .i64 M.s, .int .i64 M.r, .int .i64 M.t, .slice uba n ubc] 27)) (.cells (Array.replicate n (.bool false)) 4)))
  clear H11
  have H15 := Lib.hid (H13.out.step (al (U0.alloc (.cells #[.int .i64 M.v, .int .i64 M.c, .int .i64 M.s, .int .i64 M.r, .int .i64 M.t, .slice uba n ubc] 27)) (.cells (Array.replicate n (.bool false)) 4)))
  clear H13
  have H16 := Lib.hid (keep2 (al (U0.alloc (.cells #[.int .i64 M.v, .int .i64 M.c, .int .i64 M.s, .int .i64 M.r, .int .i64 M.t, .slice uba n ubc] 27)) (.cells (Array.replicate n (.bool false)) 4)) H12.out)
  clear H12
  have HA0 := Lib.hid (show AdW ((U0.alloc (.cells #[.int .i64 M.v, .int .i64 M.c, .int .i64 M.s, .int .i64 M.r, .int .i64 M.t, .slice uba n ubc] 27)).alloc (.cells (Array.replicate n (.bool false)) 4)) (U0.heap.size + 1) n (fun _ => false) by
    have q := AdW.new (U0.alloc (.cells #[.int .i64 M.v, .int .i64 M.c, .int .i64 M.s, .int .i64 M.r, .int .i64 M.t, .slice uba n ubc] 27)) n
    rwa [World.size_alloc] at q)
  have HU1 := Lib.hid (show Below U0.heap.size U0 ((U0.alloc (.cells #[.int .i64 M.v, .int .i64 M.c, .int .i64 M.s, .int .i64 M.r, .int .i64 M.t, .slice uba n ubc] 27)).alloc (.cells (Array.replicate n (.bool false)) 4)) from (al U0 (.cells #[.int .i64 M.v, .int .i64 M.c, .int .i64 M.s, .int .i64 M.r, .int .i64 M.t, .slice uba n ubc] 27)).trans ((al (U0.alloc (.cells #[.int .i64 M.v, .int .i64 M.c, .int .i64 M.s, .int .i64 M.r, .int .i64 M.t, .slice uba n ubc] 27)) (.cells (Array.replicate n (.bool false)) 4)).mono (al U0 (.cells #[.int .i64 M.v, .int .i64 M.c, .int .i64 M.s, .int .i64 M.r, .int .i64 M.t, .slice uba n ubc] 27)).size))
  obtain ⟨V0, hV0⟩ : ∃ z9, ((U0.alloc (.cells #[.int .i64 M.v, .int .i64 M.c, .int .i64 M.s, .int .i64 M.r, .int .i64 M.t, .slice uba n ubc] 27)).alloc (.cells (Array.replicate n (.bool false)) 4)) = z9 := ⟨_, rfl⟩
  rw [hV0] at H14 H15 H16 HS0 HA0 HU1
  clear H15
  go_wp2_with fail
  clear hmk
  clear hV0
  have HVS := Lib.hid (show V0.heap.size = V0.heap.size from rfl)
  have HGL := Lib.hid HA0.out.lt
  go_loopw [16] (fun iv wr => ∃ (i : Nat) (f : Nat → Bool) (ra : Option Addr) (rc n2 : Nat), i ≤ os.length ∧ iv = .int .i64 (i : Int) ∧ Hid (BoxN wr U0.heap.size #[.int .i64 M.v, .int .i64 M.c, .int .i64 M.s, .int .i64 M.r, .int .i64 M.t, .slice ra n rc] 27) ∧ Hid (OwR 0 n2 (LfF sn n D f) (.slice ra n rc) wr) ∧ Hid (AdW wr (U0.heap.size + 1) n f) ∧ Hid (Below U0.heap.size U0 wr) ∧ Hid (V0.heap.size ≤ wr.heap.size)) (fun iv _ => os.length - (intOf iv).toNat)
  case atStart => exact ⟨0, fun _ => false, uba, ubc, 0, by omega, rfl, HS0, H14, HA0, HU1, Lib.hid (Nat.le_refl _)⟩
  case round =>
    obtain ⟨i, f, ra, rc, n2, hi, rfl, HSS, HRR, HAA, HUU, HVV⟩ := hrel
    clear HS0 HA0 HU1 HVS H14
    by_cases hlt : i < os.length
    rotate_left
    · skip
      obtain rfl : i = os.length := by omega
      have HN0 := Lib.hid (show 1 ≤ n ∧ n ≤ 64 from ⟨hS.out.n1, hS.out.n2⟩)
      have t1 : ¬ (os.length : Int) < (os.length : Int) := by omega
      have t2 : wrap64 ((n : Int) - 1) = (n : Int) - 1 := IntWalk.wrap64_in _ (by have := HN0.out; omega)
      clear hlt hi
      go_wp2_with fail
      clear t1 t2
      clear HAA
      go_loopw [23] (fun iv wr => ∃ (i : Nat) (f : Nat → Bool) (ra : Option Addr) (rc n2 : Nat), i ≤ n ∧ iv = .int .i64 ((i : Int) - 1) ∧ (Hid (∀ j, i ≤ j → j < n → f j = true)) ∧ Hid (BoxN wr U0.heap.size #[.int .i64 M.v, .int .i64 M.c, .int .i64 M.s, .int .i64 M.r, .int .i64 M.t, .slice ra n rc] 27) ∧ Hid (OwR 0 n2 (LfF sn n D f) (.slice ra n rc) wr) ∧ Hid (Below U0.heap.size U0 wr) ∧ Hid (V0.heap.size ≤ wr.heap.size)) (fun iv _ => (intOf iv + 1).toNat)
      case atStart => exact ⟨n, f, ra, rc, n2, Nat.le_refl _, rfl, Lib.hid (fun j h1 h2 => by omega), HSS, HRR, HUU, HVV⟩
      case round =>
        clear HSS HRR HUU HVV
        obtain ⟨i, f, ra, rc, n2, hi, rfl, HFF, HSS, HRR, HUU, HVV⟩ := hrel
        by_cases hi0 : i = 0
        · subst hi0
          have HFA := Lib.hid (show ∀ j, j < n → f j = true from fun j hj => HFF.out j (Nat.zero_le _) hj)
          obtain ⟨L, hLq⟩ : ∃ z9, LfF sn n D f = z9 := ⟨_, rfl⟩
          have HLN := Lib.hid (show L.length = n by rw [← hLq]; exact lf_len _ _ _ _)
          have HLS := Lib.hid (show ∀ x ∈ L, x.length ≤ 1000 from fun x hx => lf_small hS.out (by rw [hLq]; exact hx))
          have HJO := Lib.hid (show joE M L = 0 by rw [← hLq]; exact jo_lf hS.out HFA.out)
          have HJD := Lib.hid (show joD 0 L = D by unfold joD; rw [if_pos rfl, ← hLq]; exact lf_flat hS.out HFA.out)
          have HMB := Lib.hid (show msB M L = [] by rw [← hLq, ms_lf hS.out]; exact ms_none hS.out HFA.out)
          have HFL := Lib.hid (show L.flatten.length ≤ 5000 by rw [← hLq]; exact flat_small hS.out)
          rw [hLq] at HRR
          clear hLq HFF
          have t1 : decide (((0 : Nat) : Int) - 1 ≥ 0) = false := by decide
          have t2 : ¬ (0 : Int) ≤ ((0 : Nat) : Int) - 1 := by omega
          have HII := Lib.hid (IU.out.step HUU.out)
          have HBB := Lib.hid (BU.out.trans (HUU.out.mono BU.out.size))
          have a0 := (cs_of_box HSS.out).c 0 rfl
          have a1 := (cs_of_box HSS.out).c 1 rfl
          have a2 := (cs_of_box HSS.out).c 2 rfl
          have a3 := (cs_of_box HSS.out).c 3 rfl
          have a4 := (cs_of_box HSS.out).c 4 rfl
          have a5 := (cs_of_box HSS.out).c 5 rfl
          have az := HSS.out.lt
          go_wp2_with fail
          refine (join_any M _ L _ HRR.out.rows (by rw [HLN.out]; have := HN0.out; omega) HLS.out HFL.out HJO.out HJD.out).mono ?_
          rintro e w3 ⟨jv, rfl, hjv, b3⟩
          clear az t1 t2 a0 a1 a2 a3 a4 a5
          have HS3 := Lib.hid (HSS.out.step b3)
          have HR3 := Lib.hid (HRR.out.step b3)
          have HI3 := Lib.hid (HII.out.step b3)
          have HB3 := Lib.hid (keep2 b3 HBB.out)
          have HJ3 := Lib.hid hjv
          obtain ⟨ja, jc, rfl⟩ : ∃ (a : Option Addr) (c : Nat), jv = .slice a D.length c := by
            obtain ⟨a, c, e, -⟩ := hjv
            exact ⟨a, c, e⟩
          clear hjv b3
          go_wp2_with fail
          refine (ints_bel _ _ D D _ HJ3.out HI3.out).mono ?_
          rintro e w4 ⟨rfl, b4⟩
          rw [decide_eq_true (rfl : D = D)]
          have HS4 := Lib.hid (HS3.out.step b4)
          have HR4 := Lib.hid (HR3.out.step b4)
          have HB4 := Lib.hid (keep2 b4 HB3.out)
          clear b4
          have a0 := (cs_of_box HS4.out).c 0 rfl
          have a1 := (cs_of_box HS4.out).c 1 rfl
          have a2 := (cs_of_box HS4.out).c 2 rfl
          have a3 := (cs_of_box HS4.out).c 3 rfl
          have a4 := (cs_of_box HS4.out).c 4 rfl
          have a5 := (cs_of_box HS4.out).c 5 rfl
          have az := HS4.out.lt
          go_wp2_with fail
          refine (miss_any M _ L _ HR4.out.rows (by rw [HLN.out]; have := HN0.out; omega) HLS.out).mono ?_
          rintro e w5 ⟨mv, rfl, hmv, b5⟩
          rw [HMB.out] at hmv
          obtain ⟨ma, mc, rfl⟩ : ∃ (a : Option Addr) (c : Nat), mv = .slice a 0 c := by
            obtain ⟨a, c, e, -⟩ := hmv
            exact ⟨a, c, e⟩
          have HB5 := Lib.hid (keep2 b5 HB4.out)
          go_wp2
          go_ret
          exact ⟨rfl, HB5.out⟩
        obtain ⟨kk, rfl⟩ : ∃ kk, i = kk + 1 := ⟨i - 1, by omega⟩
        have HKN := Lib.hid (show kk < n by omega)
        clear hi hi0
        have hkc : (((kk + 1 : Nat) : Int) - 1) = (kk : Int) := by omega
        rw [hkc]
        clear hkc
        have HPP := Lib.hid (PU.out.step HUU.out)
        obtain ⟨x, hx⟩ : ∃ z9, l[kk]? = some z9 := ⟨_, hpl.out kk HKN.out⟩
        have HGK := Lib.hid hx
        clear hx
        have hxe : (⟨(kk : Int), chk sn D kk, pthL (rowsT (lvs (chL sn D))) kk⟩ : Pc) = x := by
          have q1 := hpl.out kk HKN.out
          rw [HGK.out] at q1
          exact (Option.some.inj q1).symm
        have HXE := Lib.hid hxe
        clear hxe
        obtain ⟨L, hLq⟩ : ∃ z9, LfF sn n D f = z9 := ⟨_, rfl⟩
        obtain ⟨L1, hL1q⟩ : ∃ z9, LfF sn n D (fun j => j == kk || f j) = z9 := ⟨_, rfl⟩
        have HAD := Lib.hid (show adE M L (kk : Int) x.d x.p = 0 by rw [← HXE.out, ← hLq]; exact ad_lf hS.out HKN.out)
        have HAL := Lib.hid (show adL M L (kk : Int) x.d x.p = L1 by rw [← HXE.out, ← hLq, ← hL1q]; exact al_lf hS.out HKN.out)
        have HLN := Lib.hid (show L.length = n by rw [← hLq]; exact lf_len _ _ _ _)
        have HL1N := Lib.hid (show L1.length = n by rw [← hL1q]; exact lf_len _ _ _ _)
        have HLS := Lib.hid (show ∀ x ∈ L, x.length ≤ 1000 from fun x hx => lf_small hS.out (by rw [hLq]; exact hx))
        have HDL := Lib.hid (show x.d.length ≤ 1000 by
          rw [← HXE.out]
          have h1 := (chk_pos hS.out HKN.out).2.1
          have h2 := hS.out.s2
          show (chk sn D kk).length ≤ 1000
          omega)
        have HXI := Lib.hid (show x.i = (kk : Int) by rw [← HXE.out])
        rw [hLq] at HRR
        replace hLq := Lib.hid hLq
        replace hL1q := Lib.hid hL1q
        obtain ⟨b, off, e9, ya, yc, qa, qc, x0, x1, x2, xz, hy0, hy1⟩ := pcs_at (HPP.out) HGK.out
        rw [HXI.out] at x0
        subst e9
        have HX0 := Lib.hid x0
        have HX1 := Lib.hid x1
        have HX2 := Lib.hid x2
        have HXZ := Lib.hid xz
        have HY0 := Lib.hid hy0
        have HY1 := Lib.hid hy1
        clear x0 x1 x2 xz hy0 hy1
        have t1 : decide ((kk : Int) ≥ 0) = true := decide_eq_true (by omega)
        have t2 : (0 : Int) ≤ (kk : Int) := by omega
        go_upto_region 31 with fail
        clear t1 t2
        obtain ⟨lit, hlit⟩ : ∃ lit : (Nat → Value) → Act, lit = fun vs => { tmps := List.toArray (Value.int IntKind.i64 key :: Value.int IntKind.i64 ver :: Value.int IntKind.i64 s :: Value.slice va D.length vc :: Value.slice oa os.length oc :: undef :: undef :: undef :: undef :: undef :: u10 :: Value.bool true :: Value.pointer (some { block := U0.heap.size, off := 0 }) :: Value.slice (some { block := b, off := off }) n uc :: Value.bool true :: Value.slice (some { block := U0.heap.size + 1, off := 0 }) n n :: Value.int IntKind.i64 (os.length : Int) :: u17 :: u18 :: u19 :: u20 :: u21 :: u22 :: Value.int IntKind.i64 (kk : Int) :: vs 9 :: vs 11 :: undef :: undef :: Value.bool true :: Value.slice va D.length vc :: Value.int IntKind.i64 (D.length : Int) :: Value.bool false :: Value.bool false :: Value.slice oa os.length oc :: Value.int IntKind.i64 (os.length : Int) :: Value.bool false :: Value.bool false :: undef :: Value.tuple #[Value.agg #[Value.int IntKind.i64 M.v, Value.int IntKind.i64 M.c, Value.int IntKind.i64 M.s, Value.int IntKind.i64 M.r, Value.int IntKind.i64 M.t, Value.slice uba n ubc], Value.slice (some { block := b, off := off }) n uc, Value.bool true] :: Value.int IntKind.i64 key :: Value.int IntKind.i64 ver :: Value.int IntKind.i64 s :: Value.slice va D.length vc :: Value.tuple #[Value.agg #[Value.int IntKind.i64 M.v, Value.int IntKind.i64 M.c, Value.int IntKind.i64 M.s, Value.int IntKind.i64 M.r, Value.int IntKind.i64 M.t, Value.slice uba n ubc], Value.slice (some { block := b, off := off }) n uc, Value.bool true] :: Value.agg #[Value.int IntKind.i64 M.v, Value.int IntKind.i64 M.c, Value.int IntKind.i64 M.s, Value.int IntKind.i64 M.r, Value.int IntKind.i64 M.t, Value.slice uba n ubc] :: Value.slice (some { block := b, off := off }) n uc :: Value.bool true :: Value.bool true :: Value.bool false :: undef :: Value.slice (some { block := b, off := off }) n uc :: Value.int IntKind.i64 (n : Int) :: Value.slice (some { block := U0.heap.size + 1, off := 0 }) n n :: Value.int IntKind.i64 (os.length : Int) :: Value.slice oa os.length oc :: Value.int IntKind.i64 (os.length : Int) :: Value.bool false :: u57 :: u58 :: u59 :: u60 :: u61 :: u62 :: u63 :: u64 :: u65 :: u66 :: u67 :: u68 :: u69 :: u70 :: u71 :: u72 :: u73 :: u74 :: u75 :: u76 :: u77 :: u78 :: u79 :: u80 :: u81 :: u82 :: u83 :: u84 :: u85 :: u86 :: u87 :: u88 :: u89 :: u90 :: u91 :: u92 :: u93 :: u94 :: u95 :: u96 :: u97 :: u98 :: u99 :: u100 :: u101 :: u102 :: u103 :: u104 :: u105 :: u106 :: u107 :: u108 :: u109 :: u110 :: u111 :: u112 :: Value.slice (some { block := b, off := off }) n uc :: Value.int IntKind.i64 (n : Int) :: Value.int IntKind.i64 ((n : Int) - 1) :: Value.int IntKind.i64 (kk : Int) :: Value.bool true :: u118 :: u119 :: vs 6 :: vs 0 :: vs 1 :: vs 2 :: vs 3 :: vs 4 :: vs 5 :: vs 7 :: vs 8 :: u129 :: u130 :: u131 :: undef :: undef :: undef :: undef :: undef :: undef :: undef :: undef :: undef :: undef :: undef :: undef :: undef :: undef :: undef :: undef :: undef :: undef :: undef :: undef :: undef :: []), defers := [] } := ⟨_, rfl⟩
        have HLIT := Lib.hid hlit
        clear hlit
        obtain ⟨val, hval⟩ : ∃ val : List Value, val = [.agg #[.int .i64 M.v, .int .i64 M.c, .int .i64 M.s, .int .i64 M.r, .int .i64 M.t, .slice ra n rc], .slice (some ⟨b, off, none⟩) n uc, .int .i64 (kk : Int), .pointer (some ⟨b, off + kk * 3, none⟩), .agg #[.int .i64 (kk : Int), .slice ya x.d.length yc, .slice qa x.p.length qc], undef, undef, undef, .int .i64 0, undef, undef, .int .i64 0] := ⟨_, rfl⟩
        have E0 := Lib.hid (show val.getD 0 undef = .agg #[.int .i64 M.v, .int .i64 M.c, .int .i64 M.s, .int .i64 M.r, .int .i64 M.t, .slice ra n rc] by rw [hval]; rfl)
        have E1 := Lib.hid (show val.getD 1 undef = .slice (some ⟨b, off, none⟩) n uc by rw [hval]; rfl)
        have E2 := Lib.hid (show val.getD 2 undef = .int .i64 (kk : Int) by rw [hval]; rfl)
        have E3 := Lib.hid (show val.getD 3 undef = .pointer (some ⟨b, off + kk * 3, none⟩) by rw [hval]; rfl)
        have E4 := Lib.hid (show val.getD 4 undef = .agg #[.int .i64 (kk : Int), .slice ya x.d.length yc, .slice qa x.p.length qc] by rw [hval]; rfl)
        have E8 := Lib.hid (show val.getD 8 undef = .int .i64 0 by rw [hval]; rfl)
        have E11 := Lib.hid (show val.getD 11 undef = .int .i64 0 by rw [hval]; rfl)
        clear hval
        obtain ⟨G, hG0⟩ : ∃ G : Bool → Nat → Value → World → Prop, G = (fun bq iq vq ww => (iq = 5 → QoT 0 M L1 n 0 bq vq ww) ∧ (iq = 6 → QoT 0 M L1 n 0 bq vq ww) ∧ (iq = 7 → QoA 0 M L1 n bq vq ww) ∧ (iq = 9 → QoK wr.heap.size M L1 n bq vq ww) ∧ (iq ≠ 5 → iq ≠ 6 → iq ≠ 7 → iq ≠ 9 → iq ≠ 10 → vq = val.getD iq undef)) := ⟨_, rfl⟩
        have HG := Lib.hid hG0
        clear hG0
        refine region_inv (NS lit 10 (fun p q => (p == 10 && q == 0) || (p == 10 && q == 4) || (p == 10 && q == 5) || (p == 10 && q == 6) || (p == 10 && q == 7) || (p == 10 && q == 9) || (p == 10 && q == 1) || (p == 10 && q == 2) || (p == 10 && q == 3)) G fun bq wv => (bq = false → Below wr.heap.size wr wv) ∧ (bq = true → Below wr.heap.size wr wv)) (by kernel_rfl) (by decide +kernel) ?_ ?_ ?_
        · exact NS.start (fun i => ([u121, u122, u123, u124, u125, u126, u120, u127, u128, u24, undef, u25] : List Value).getD i undef) (by rw [HLIT.out]; rfl) ⟨fun _ => below_drew _ _, fun h => (by cases h)⟩
        · refine ⟨?_, ?_, ?_, ?_, ?_, ?_, ?_, ?_, ?_, ?_, ?_, ?_, trivial⟩
          · intro bf ac wv hfb haf hJ K' hK
            obtain ⟨vs, rfl, ja, hB, j4⟩ := hJ
            replace hK := Lib.hid hK
            rw [HG.out] at j4
            have hd : bf 10 = false := by
              cases h : bf 10
              · rfl
              · exact absurd ((ja 10 0 rfl h).symm.trans hfb) (by simp)
            have hM := Lib.hid (hB.1 hd)
            replace j4 := Lib.hid (And.intro ja j4)
            replace hB := Lib.hid hB
            clear ja haf
            have x0 := ((cs_of_box HSS.out).step hM.out).c 0 rfl
            have x1 := ((cs_of_box HSS.out).step hM.out).c 1 rfl
            have x2 := ((cs_of_box HSS.out).step hM.out).c 2 rfl
            have x3 := ((cs_of_box HSS.out).step hM.out).c 3 rfl
            have x4 := ((cs_of_box HSS.out).step hM.out).c 4 rfl
            have x5 := ((cs_of_box HSS.out).step hM.out).c 5 rfl
            have xz := ((cs_of_box HSS.out).step hM.out).2.2
            rw [HLIT.out]
            go_simp
            exact hK.out _ _ (NS.next (wv := wv) (vs := vs) 0 (by omega) (fun q h => absurd h (by simp)) (x := .agg #[.int .i64 M.v, .int .i64 M.c, .int .i64 M.s, .int .i64 M.r, .int .i64 M.t, .slice ra n rc]) (by rw [HLIT.out]; rfl) (by rw [HG.out]; exact j4.out) hB.out (by rw [HG.out]; exact fun _ _ h => h) (by rw [HG.out]; exact ⟨fun h => absurd h (by decide), fun h => absurd h (by decide), fun h => absurd h (by decide), fun h => absurd h (by decide), fun _ _ _ _ _ => E0.out.symm⟩))
          · intro bf ac wv hfb haf hJ K' hK
            obtain ⟨vs, rfl, ja, hB, j4⟩ := hJ
            replace hK := Lib.hid hK
            rw [HG.out] at j4
            replace j4 := Lib.hid (And.intro ja j4)
            replace hB := Lib.hid hB
            clear ja haf
            rw [HLIT.out]
            go_simp
            exact hK.out _ _ (NS.next (wv := wv) (vs := vs) 1 (by omega) (fun q h => absurd h (by simp)) (x := .slice (some ⟨b, off, none⟩) n uc) (by rw [HLIT.out]; rfl) (by rw [HG.out]; exact j4.out) hB.out (by rw [HG.out]; exact fun _ _ h => h) (by rw [HG.out]; exact ⟨fun h => absurd h (by decide), fun h => absurd h (by decide), fun h => absurd h (by decide), fun h => absurd h (by decide), fun _ _ _ _ _ => E1.out.symm⟩))
          · intro bf ac wv hfb haf hJ K' hK
            obtain ⟨vs, rfl, ja, hB, j4⟩ := hJ
            replace hK := Lib.hid hK
            rw [HG.out] at j4
            replace j4 := Lib.hid (And.intro ja j4)
            replace hB := Lib.hid hB
            clear ja haf
            rw [HLIT.out]
            go_simp
            exact hK.out _ _ (NS.next (wv := wv) (vs := vs) 2 (by omega) (fun q h => absurd h (by simp)) (x := .int .i64 (kk : Int)) (by rw [HLIT.out]; rfl) (by rw [HG.out]; exact j4.out) hB.out (by rw [HG.out]; exact fun _ _ h => h) (by rw [HG.out]; exact ⟨fun h => absurd h (by decide), fun h => absurd h (by decide), fun h => absurd h (by decide), fun h => absurd h (by decide), fun _ _ _ _ _ => E2.out.symm⟩))
          · intro bf ac wv hfb haf hJ K' hK
            obtain ⟨vs, rfl, ja, hB, j4⟩ := hJ
            replace hK := Lib.hid hK
            simp [Region.binds] at haf
            rw [HG.out] at j4
            have e1 := ((j4 1 (by simp [haf])).2.2.2.2 (by decide) (by decide) (by decide) (by decide) (by decide)).trans E1.out
            have e2 := ((j4 2 (by simp [haf])).2.2.2.2 (by decide) (by decide) (by decide) (by decide) (by decide)).trans E2.out
            have hd : bf 10 = false := by
              cases h : bf 10
              · rfl
              · exact absurd ((ja 10 3 rfl h).symm.trans hfb) (by simp)
            have hM := Lib.hid (hB.1 hd)
            replace j4 := Lib.hid (And.intro ja j4)
            replace hB := Lib.hid hB
            clear ja haf
            have t3 : (kk : Int) < (n : Int) := by have := HKN.out; omega
            have t3b : (kk : Int).toNat = kk := Int.toNat_natCast kk
            have t3c := HKN.out
            have t3d : (0 : Int) ≤ (kk : Int) := by omega
            rw [HLIT.out]
            go_simp
            exact hK.out _ _ (NS.next (wv := wv) (vs := vs) 3 (by omega) (fun q h => absurd h (by simp)) (x := .pointer (some ⟨b, off + kk * 3, none⟩)) (by rw [HLIT.out]; simp only [upv, e1, e2, Nat.reduceBEq, cond_true, cond_false]) (by rw [HG.out]; exact j4.out) hB.out (by rw [HG.out]; exact fun _ _ h => h) (by rw [HG.out]; exact ⟨fun h => absurd h (by decide), fun h => absurd h (by decide), fun h => absurd h (by decide), fun h => absurd h (by decide), fun _ _ _ _ _ => E3.out.symm⟩))
          · intro bf ac wv hfb haf hJ K' hK
            obtain ⟨vs, rfl, ja, hB, j4⟩ := hJ
            replace hK := Lib.hid hK
            simp [Region.binds] at haf
            rw [HG.out] at j4
            have e3 := ((j4 3 (by simp [haf])).2.2.2.2 (by decide) (by decide) (by decide) (by decide) (by decide)).trans E3.out
            have hd : bf 10 = false := by
              cases h : bf 10
              · rfl
              · exact absurd ((ja 10 4 rfl h).symm.trans hfb) (by simp)
            have hM := Lib.hid (hB.1 hd)
            replace j4 := Lib.hid (And.intro ja j4)
            replace hB := Lib.hid hB
            clear ja haf
            have r0 := keep1 hM.out HX0.out
            have r1 := keep1 hM.out HX1.out
            have r2 := keep1 hM.out HX2.out
            have rz := Nat.lt_of_lt_of_le HXZ.out hM.out.size
            rw [HLIT.out]
            go_simp
            exact hK.out _ _ (NS.next (wv := wv) (vs := vs) 4 (by omega) (fun q h => absurd h (by simp)) (x := .agg #[.int .i64 (kk : Int), .slice ya x.d.length yc, .slice qa x.p.length qc]) (by rw [HLIT.out]; simp only [upv, e3, Nat.reduceBEq, cond_true, cond_false]) (by rw [HG.out]; exact j4.out) hB.out (by rw [HG.out]; exact fun _ _ h => h) (by rw [HG.out]; exact ⟨fun h => absurd h (by decide), fun h => absurd h (by decide), fun h => absurd h (by decide), fun h => absurd h (by decide), fun _ _ _ _ _ => E4.out.symm⟩))
          · intro bf ac wv hfb haf hJ K' hK
            obtain ⟨vs, rfl, ja, hB, j4⟩ := hJ
            replace hK := Lib.hid hK
            simp [Region.binds] at haf
            rw [HG.out] at j4
            have e0 := ((j4 0 (by simp [haf])).2.2.2.2 (by decide) (by decide) (by decide) (by decide) (by decide)).trans E0.out
            have e4 := ((j4 4 (by simp [haf])).2.2.2.2 (by decide) (by decide) (by decide) (by decide) (by decide)).trans E4.out
            have hd : bf 10 = false := by
              cases h : bf 10
              · rfl
              · exact absurd ((ja 10 5 rfl h).symm.trans hfb) (by simp)
            have hM := Lib.hid (hB.1 hd)
            replace j4 := Lib.hid (And.intro ja j4)
            replace hB := Lib.hid hB
            clear ja haf
            rw [HLIT.out]
            go_simp
            go_at_call 15
            refine (add_any M (kk : Int) _ L _ x.d _ x.p wv (HRR.out.step hM.out).rows (HY0.out.step hM.out) (HY1.out.step hM.out) (by rw [HLN.out]; have := hS.out.n2; omega) HLS.out HDL.out HAD.out HAL.out).mono ?_
            rintro e w4 ⟨u4, nnr, rfl, -, hr, b4⟩
            obtain ⟨uar, ucr, rfl⟩ : ∃ (a : Option Addr) (c : Nat), u4 = .slice a n c := by
              obtain ⟨a, c, e, -⟩ := hr
              rw [HL1N.out] at e
              exact ⟨a, c, e⟩
            exact hK.out _ _ (NS.next (wv := wv) (vs := vs) 5 (by omega) (fun q h => absurd h (by simp)) (x := (.tuple #[.agg #[.int .i64 M.v, .int .i64 M.c, .int .i64 M.s, .int .i64 M.r, .int .i64 M.t, .slice uar n ucr], .int .i64 0])) (by rw [HLIT.out]; simp only [upv, e0, e4, Nat.reduceBEq, cond_true, cond_false]) (by rw [HG.out]; exact j4.out) ⟨fun _ => keep2 b4 hM.out, fun e => absurd (e.symm.trans hd) (by simp)⟩ (by rw [HG.out]; exact fun k hbk h => ⟨fun q => (h.1 q).step b4, fun q => (h.2.1 q).step b4, fun q => (h.2.2.1 q).step b4, fun q => (h.2.2.2.1 q).step b4, h.2.2.2.2⟩) (by rw [HG.out]; exact ⟨fun _ => ⟨uar, ucr, nnr, rfl, fun _ => hr⟩, fun h => absurd h (by decide), fun h => absurd h (by decide), fun h => absurd h (by decide), fun h5 => absurd rfl h5⟩))
          · intro bf ac wv hfb haf hJ K' hK
            obtain ⟨vs, rfl, ja, hB, j4⟩ := hJ
            replace hK := Lib.hid hK
            simp [Region.binds] at haf
            rw [HG.out] at j4
            have e5 := (j4 5 (by simp [haf])).1 rfl
            replace j4 := Lib.hid (And.intro ja j4)
            replace hB := Lib.hid hB
            clear ja haf
            obtain ⟨uar, ucr, nnr, e5, hr⟩ := e5
            rw [HLIT.out]
            go_simp
            exact hK.out _ _ (NS.next (wv := wv) (vs := vs) 6 (by omega) (fun q h => absurd h (by simp)) (x := (.tuple #[.agg #[.int .i64 M.v, .int .i64 M.c, .int .i64 M.s, .int .i64 M.r, .int .i64 M.t, .slice uar n ucr], .int .i64 0])) (by rw [HLIT.out]; simp only [upv, e5, Nat.reduceBEq, cond_true, cond_false]) (by rw [HG.out]; exact j4.out) hB.out (by rw [HG.out]; exact fun _ _ h => h) (by rw [HG.out]; exact ⟨fun h => absurd h (by decide), fun _ => ⟨uar, ucr, nnr, rfl, hr⟩, fun h => absurd h (by decide), fun h => absurd h (by decide), fun h5 h6 => absurd rfl h6⟩))
          · intro bf ac wv hfb haf hJ K' hK
            obtain ⟨vs, rfl, ja, hB, j4⟩ := hJ
            replace hK := Lib.hid hK
            simp [Region.binds] at haf
            rw [HG.out] at j4
            have e6 := (j4 6 (by simp [haf])).2.1 rfl
            replace j4 := Lib.hid (And.intro ja j4)
            replace hB := Lib.hid hB
            clear ja haf
            obtain ⟨uar, ucr, nnr, e6, hr⟩ := e6
            rw [HLIT.out]
            go_simp
            exact hK.out _ _ (NS.next (wv := wv) (vs := vs) 7 (by omega) (fun q h => absurd h (by simp)) (x := (.agg #[.int .i64 M.v, .int .i64 M.c, .int .i64 M.s, .int .i64 M.r, .int .i64 M.t, .slice uar n ucr])) (by rw [HLIT.out]; simp only [upv, e6, Nat.reduceBEq, cond_true, cond_false]) (by rw [HG.out]; exact j4.out) hB.out (by rw [HG.out]; exact fun _ _ h => h) (by rw [HG.out]; exact ⟨fun h => absurd h (by decide), fun h => absurd h (by decide), fun _ => ⟨uar, ucr, nnr, rfl, hr⟩, fun h => absurd h (by decide), fun h5 h6 h7 => absurd rfl h7⟩))
          · intro bf ac wv hfb haf hJ K' hK
            obtain ⟨vs, rfl, ja, hB, j4⟩ := hJ
            replace hK := Lib.hid hK
            simp [Region.binds] at haf
            rw [HG.out] at j4
            have e6 := (j4 6 (by simp [haf])).2.1 rfl
            replace j4 := Lib.hid (And.intro ja j4)
            replace hB := Lib.hid hB
            clear ja haf
            obtain ⟨uar, ucr, nnr, e6, hr⟩ := e6
            rw [HLIT.out]
            go_simp
            exact hK.out _ _ (NS.next (wv := wv) (vs := vs) 8 (by omega) (fun q h => absurd h (by simp)) (x := .int .i64 0) (by rw [HLIT.out]; simp only [upv, e6, Nat.reduceBEq, cond_true, cond_false]) (by rw [HG.out]; exact j4.out) hB.out (by rw [HG.out]; exact fun _ _ h => h) (by rw [HG.out]; exact ⟨fun h => absurd h (by decide), fun h => absurd h (by decide), fun h => absurd h (by decide), fun h => absurd h (by decide), fun _ _ _ _ _ => E8.out.symm⟩))
          · intro bf ac wv hfb haf hJ K' hK
            obtain ⟨vs, rfl, ja, hB, j4⟩ := hJ
            replace hK := Lib.hid hK
            rw [HG.out] at j4
            have hd : bf 10 = false := by
              cases h : bf 10
              · rfl
              · exact absurd ((ja 10 9 rfl h).symm.trans hfb) (by simp)
            have hM := Lib.hid (hB.1 hd)
            replace j4 := Lib.hid (And.intro ja j4)
            replace hB := Lib.hid hB
            clear ja haf
            rw [HLIT.out]
            go_simp
            have b4 := al wv (.cells ZB6 27)
            exact hK.out _ _ (NS.next (wv := wv) (vs := vs) 9 (by omega) (fun q h => absurd h (by simp)) (x := (.pointer (some ⟨wv.heap.size, 0, none⟩))) (by rw [HLIT.out]; rfl) (by rw [HG.out]; exact j4.out) ⟨fun _ => keep2 b4 hM.out, fun e => absurd (e.symm.trans hd) (by simp)⟩ (by rw [HG.out]; exact fun k hbk h => ⟨fun q => (h.1 q).step b4, fun q => (h.2.1 q).step b4, fun q => (h.2.2.1 q).step b4, fun q => (h.2.2.2.1 q).step b4, h.2.2.2.2⟩) (by rw [HG.out]; exact ⟨fun h => absurd h (by decide), fun h => absurd h (by decide), fun h => absurd h (by decide), fun _ => ⟨wv.heap.size, rfl, hM.out.size, fun _ => BoxN.new wv ZB6 27, fun e => absurd (e.symm.trans hd) (by simp)⟩, fun h5 h6 h7 h9 => absurd rfl h9⟩))
          · intro bf ac wv hfb haf hJ K' hK
            obtain ⟨vs, rfl, ja, hB, j4⟩ := hJ
            replace hK := Lib.hid hK
            simp [Region.binds] at haf
            rw [HG.out] at j4
            have e7 := (j4 7 (by simp [haf])).2.2.1 rfl
            have e9 := (j4 9 (by simp [haf])).2.2.2.1 rfl
            rw [hfb] at j4 hB
            try rw [hfb] at e7
            try rw [hfb] at e9
            have HA := Lib.hid (show ∀ q, (fun p q => (p == 10 && q == 0) || (p == 10 && q == 4) || (p == 10 && q == 5) || (p == 10 && q == 6) || (p == 10 && q == 7) || (p == 10 && q == 9) || (p == 10 && q == 1) || (p == 10 && q == 2) || (p == 10 && q == 3)) 10 q = true → bf q = true from fun q hi => by
              obtain rfl | rfl | rfl | rfl | rfl | rfl | rfl | rfl | rfl : q = 0 ∨ q = 4 ∨ q = 5 ∨ q = 6 ∨ q = 7 ∨ q = 9 ∨ q = 1 ∨ q = 2 ∨ q = 3 := by simpa [or_assoc] using hi
              all_goals simp [haf])
            have hM := Lib.hid (hB.1 rfl)
            replace j4 := Lib.hid j4
            have HE := Lib.hid (And.intro ja HA.out)
            clear ja haf hB HA
            obtain ⟨k, e9, hk, hz, -⟩ := e9
            replace hz := hz rfl
            obtain ⟨uar, ucr, nnr, e7, hr⟩ := e7
            replace hr := Lib.hid (hr rfl)
            replace hk := Lib.hid hk
            have HZ := Lib.hid hz
            have HZC := Lib.hid (cs_of_box hz)
            have x0 := HZC.out.c 0 rfl
            have y0 := HZC.out.f 0 (by simp [ZB6])
            have x1 := HZC.out.c 1 rfl
            have y1 := HZC.out.f 1 (by simp [ZB6])
            have x2 := HZC.out.c 2 rfl
            have y2 := HZC.out.f 2 (by simp [ZB6])
            have x3 := HZC.out.c 3 rfl
            have y3 := HZC.out.f 3 (by simp [ZB6])
            have x4 := HZC.out.c 4 rfl
            have y4 := HZC.out.f 4 (by simp [ZB6])
            have x5 := HZC.out.c 5 rfl
            have y5 := HZC.out.f 5 (by simp [ZB6])
            have xz := HZC.out.2.2
            clear hz
            rw [HLIT.out]
            go_simp
            have p1 : BxO 0 M L1 n k (putS wv k M (.slice uar n ucr)) := ⟨uar, ucr, nnr, box_putS HZ.out rfl M _, hr.out.putS (Nat.zero_le _) (tyB_box HZ.out) M _⟩
            have p3 : Below wr.heap.size wv (putS wv k M (.slice uar n ucr)) := putS_below _ hk.out M _
            exact hK.out _ _ (NS.put (vs := vs) (w' := putS wv k M (.slice uar n ucr)) (by rw [HLIT.out]; simp only [e9, e7]) HE.out ⟨fun e => (by cases e), fun _ => hM.out.trans p3⟩ (fun j hj hb => by
              rw [HG.out]
              have q := j4.out j hb
              exact ⟨fun h => (q.1 h).put _, fun h => (q.2.1 h).put _, fun h => (q.2.2.1 h).put _, fun h => by
                subst h
                exact ⟨k, e9, hk.out, fun e => (by cases e), fun _ => p1⟩, q.2.2.2.2⟩) (fun v => by rw [HG.out]; exact ⟨fun h => absurd h (by decide), fun h => absurd h (by decide), fun h => absurd h (by decide), fun h => absurd h (by decide), fun h5 h6 h7 h9 h10 => absurd rfl h10⟩))
          · intro bf ac wv hfb haf hJ K' hK
            obtain ⟨vs, rfl, ja, hB, j4⟩ := hJ
            replace hK := Lib.hid hK
            simp [Region.binds] at haf
            rw [HG.out] at j4
            have e8 := ((j4 8 (by simp [haf])).2.2.2.2 (by decide) (by decide) (by decide) (by decide) (by decide)).trans E8.out
            replace j4 := Lib.hid (And.intro ja j4)
            replace hB := Lib.hid hB
            clear ja haf
            rw [HLIT.out]
            go_simp
            exact hK.out _ _ (NS.next (wv := wv) (vs := vs) 11 (by omega) (fun q h => absurd h (by simp)) (x := .int .i64 0) (by rw [HLIT.out]; simp only [upv, e8, Nat.reduceBEq, cond_true, cond_false]) (by rw [HG.out]; exact j4.out) hB.out (by rw [HG.out]; exact fun _ _ h => h) (by rw [HG.out]; exact ⟨fun h => absurd h (by decide), fun h => absurd h (by decide), fun h => absurd h (by decide), fun h => absurd h (by decide), fun _ _ _ _ _ => E11.out.symm⟩))
        · intro bf ac wv hall hJ
          obtain ⟨vs, rfl, -, hB, j4⟩ := hJ
          rw [HG.out] at j4
          rw [hall 10 (by decide)] at hB j4
          have hM := Lib.hid (hB.2 rfl)
          clear hB
          obtain ⟨k9, e9, hk9, -, hbx⟩ := (j4 9 (hall 9 (by decide))).2.2.2.1 rfl
          replace hbx := hbx rfl
          have e11 := ((j4 11 (hall 11 (by decide))).2.2.2.2 (by decide) (by decide) (by decide) (by decide) (by decide)).trans E11.out
          have HK9 := Lib.hid hk9
          have HBX := Lib.hid hbx
          have HB9 := Lib.hid hM.out
          clear hM j4 hall hk9 hbx
          rw [HLIT.out]
          dsimp only
          rw [e9, e11]
          clear e9 e11 HLIT HG
          generalize vs = us319
          obtain ⟨W5, hW5⟩ : ∃ z9, wv = z9 := ⟨_, rfl⟩
          rw [hW5] at HBX HB9 ⊢
          clear hW5
          obtain ⟨ra1, rc1, n21, hbo, how⟩ := HBX.out
          have HBO := Lib.hid hbo
          have HOW := Lib.hid how
          clear hbo how HBX
          have HS5 := Lib.hid (HSS.out.step HB9.out)
          have HU5 := Lib.hid (HUU.out.trans (HB9.out.mono HUU.out.size))
          have HG9 := Lib.hid (show U0.heap.size ≠ k9 by have h1 := HGL.out; have h2 := HVV.out; have h3 := HK9.out; omega)
          have HV5 := Lib.hid (Nat.le_trans HVV.out HB9.out.size)
          clear HSS HRR HUU HPP HB9 HVV
          have a0 := (cs_of_box HS5.out).c 0 rfl
          have b0 := (cs_of_box HS5.out).f 0 (by simp)
          have c0 := (cs_of_box HBO.out).c 0 rfl
          have a1 := (cs_of_box HS5.out).c 1 rfl
          have b1 := (cs_of_box HS5.out).f 1 (by simp)
          have c1 := (cs_of_box HBO.out).c 1 rfl
          have a2 := (cs_of_box HS5.out).c 2 rfl
          have b2 := (cs_of_box HS5.out).f 2 (by simp)
          have c2 := (cs_of_box HBO.out).c 2 rfl
          have a3 := (cs_of_box HS5.out).c 3 rfl
          have b3 := (cs_of_box HS5.out).f 3 (by simp)
          have c3 := (cs_of_box HBO.out).c 3 rfl
          have a4 := (cs_of_box HS5.out).c 4 rfl
          have b4 := (cs_of_box HS5.out).f 4 (by simp)
          have c4 := (cs_of_box HBO.out).c 4 rfl
          have a5 := (cs_of_box HS5.out).c 5 rfl
          have b5 := (cs_of_box HS5.out).f 5 (by simp)
          have c5 := (cs_of_box HBO.out).c 5 rfl
          have az := HS5.out.lt
          have cz := HBO.out.lt
          go_upto_region 30 with fail
          clear az cz a0 b0 c0 a1 b1 c1 a2 b2 c2 a3 b3 c3 a4 b4 c4 a5 b5 c5
          have HS7 := Lib.hid (show BoxN ((((((W5.setCell ⟨U0.heap.size, 0, none⟩ (.int .i64 M.v)).setCell ⟨U0.heap.size, 1, none⟩ (.int .i64 M.c)).setCell ⟨U0.heap.size, 2, none⟩ (.int .i64 M.s)).setCell ⟨U0.heap.size, 3, none⟩ (.int .i64 M.r)).setCell ⟨U0.heap.size, 4, none⟩ (.int .i64 M.t)).setCell ⟨U0.heap.size, 5, none⟩ (.slice ra1 n rc1)) U0.heap.size #[.int .i64 M.v, .int .i64 M.c, .int .i64 M.s, .int .i64 M.r, .int .i64 M.t, .slice ra1 n rc1] 27 from box_putS HS5.out rfl M (.slice ra1 n rc1))
          have HOW7 := Lib.hid (show OwR 0 n21 L1 (.slice ra1 n rc1) ((((((W5.setCell ⟨U0.heap.size, 0, none⟩ (.int .i64 M.v)).setCell ⟨U0.heap.size, 1, none⟩ (.int .i64 M.c)).setCell ⟨U0.heap.size, 2, none⟩ (.int .i64 M.s)).setCell ⟨U0.heap.size, 3, none⟩ (.int .i64 M.r)).setCell ⟨U0.heap.size, 4, none⟩ (.int .i64 M.t)).setCell ⟨U0.heap.size, 5, none⟩ (.slice ra1 n rc1)) from HOW.out.putS (Nat.zero_le _) (tyB_box HS5.out) M (.slice ra1 n rc1))
          have HU7 := Lib.hid (show Below U0.heap.size U0 ((((((W5.setCell ⟨U0.heap.size, 0, none⟩ (.int .i64 M.v)).setCell ⟨U0.heap.size, 1, none⟩ (.int .i64 M.c)).setCell ⟨U0.heap.size, 2, none⟩ (.int .i64 M.s)).setCell ⟨U0.heap.size, 3, none⟩ (.int .i64 M.r)).setCell ⟨U0.heap.size, 4, none⟩ (.int .i64 M.t)).setCell ⟨U0.heap.size, 5, none⟩ (.slice ra1 n rc1)) from HU5.out.trans (putS_below W5 (Nat.le_refl _) M (.slice ra1 n rc1)))
          have HV7 := Lib.hid (show V0.heap.size ≤ ((((((W5.setCell ⟨U0.heap.size, 0, none⟩ (.int .i64 M.v)).setCell ⟨U0.heap.size, 1, none⟩ (.int .i64 M.c)).setCell ⟨U0.heap.size, 2, none⟩ (.int .i64 M.s)).setCell ⟨U0.heap.size, 3, none⟩ (.int .i64 M.r)).setCell ⟨U0.heap.size, 4, none⟩ (.int .i64 M.t)).setCell ⟨U0.heap.size, 5, none⟩ (.slice ra1 n rc1)).heap.size by simp only [World.size_setCell]; exact HV5.out)
          clear HS5 HOW HU5 HV5 HBO
          obtain ⟨W7, hW7⟩ : ∃ z9, ((((((W5.setCell ⟨U0.heap.size, 0, none⟩ (.int .i64 M.v)).setCell ⟨U0.heap.size, 1, none⟩ (.int .i64 M.c)).setCell ⟨U0.heap.size, 2, none⟩ (.int .i64 M.s)).setCell ⟨U0.heap.size, 3, none⟩ (.int .i64 M.r)).setCell ⟨U0.heap.size, 4, none⟩ (.int .i64 M.t)).setCell ⟨U0.heap.size, 5, none⟩ (.slice ra1 n rc1)) = z9 := ⟨_, rfl⟩
          rw [hW7] at HS7 HOW7 HU7 HV7 ⊢
          clear hW7
          have HF7 := Lib.hid (show ∀ j, kk ≤ j → j < n → (fun j => j == kk || f j) j = true from fun j h1 h2 => by
            by_cases q : j = kk
            · subst q; simp
            · have := HFF.out j (by omega) h2
              simp [this])
          have t1 : wrap64 ((kk : Int) - 1) = (kk : Int) - 1 := IntWalk.wrap64_in _ (by have h1 := HKN.out; have h2 := HN0.out; omega)
          go_wp2
          go_roundw
          case rel => exact ⟨kk, _, ra1, rc1, n21, Nat.le_of_lt HKN.out, (by first | rw [t1] | rfl), HF7, HS7, (by rw [hL1q.out]; exact HOW7), HU7, HV7⟩
          case measure => simp [intOf] <;> omega
    have HIL := Lib.hid hlt
    clear hlt hi
    have HPP := Lib.hid (PU.out.step HUU.out)
    obtain ⟨y, hy⟩ : ∃ z9, os[i]? = some z9 := ⟨_, List.getElem?_eq_getElem HIL.out⟩
    have HYB := Lib.hid (hob.out y (List.mem_of_getElem? hy))
    obtain ⟨ob, oo, rfl, o0, oz⟩ : ∃ ob oo, oa = some ⟨ob, oo, none⟩ ∧ wr.cell? ⟨ob, oo + i, none⟩ = some (.int .u8 y) ∧ ob < wr.heap.size := by
      obtain ⟨a, c, e, -, -, hc⟩ := OU.out.step HUU.out
      obtain ⟨b, off, ha, hx⟩ := hc (fun q => by rw [q] at hy; simp at hy)
      have : oa = a := by simp at e; exact e.1
      exact ⟨b, off, this.trans ha, hx i y hy, World.block_lt_of_cell? _ _ (hx i y hy)⟩
    clear hy
    have HN0 := Lib.hid (show 1 ≤ n ∧ n ≤ 64 from ⟨hS.out.n1, hS.out.n2⟩)
    obtain ⟨kk, hkk⟩ : ∃ z9, y.toNat % n = z9 := ⟨_, rfl⟩
    have HKN := Lib.hid (show kk < n by rw [← hkk]; exact Nat.mod_lt _ (by have := HN0.out; omega))
    have t0 : y.tmod (n : Int) = (kk : Int) := by
      obtain ⟨z, rfl⟩ := Int.eq_ofNat_of_zero_le HYB.out.1
      rw [← hkk]
      rfl
    have t1 : IntKind.i64.wrap y = y := IntWalk.i64_in _ (by have := HYB.out; omega)
    have t2 : wrap64 y = y := IntWalk.wrap64_in _ (by have := HYB.out; omega)
    have t3 : IntKind.i64.wrap (kk : Int) = (kk : Int) := IntWalk.i64_in _ (by have h1 := HKN.out; have h2 := HN0.out; omega)
    have t4 : wrap64 (kk : Int) = (kk : Int) := IntWalk.wrap64_in _ (by have h1 := HKN.out; have h2 := HN0.out; omega)
    have t5 : ¬ (n : Int) = 0 := by have := HN0.out; omega
    have t6 : ((n : Int) == 0) = false := by simp; have := HN0.out; omega
    have t6b : ¬ n = 0 := by have := HN0.out; omega
    have t7 : ((n : Int) == -1) = false := by simp <;> omega
    have t8 : ¬ (n : Int) = -1 := by omega
    have t9 : (i : Int) < (os.length : Int) := by have := HIL.out; omega
    have ta : (0 : Int) ≤ y := HYB.out.1
    clear hkk
    obtain ⟨x, hx⟩ : ∃ z9, l[kk]? = some z9 := ⟨_, hpl.out kk HKN.out⟩
    have HGK := Lib.hid hx
    clear hx
    have hxe : (⟨(kk : Int), chk sn D kk, pthL (rowsT (lvs (chL sn D))) kk⟩ : Pc) = x := by
      have q1 := hpl.out kk HKN.out
      rw [HGK.out] at q1
      exact (Option.some.inj q1).symm
    have HXE := Lib.hid hxe
    clear hxe
    obtain ⟨L, hLq⟩ : ∃ z9, LfF sn n D f = z9 := ⟨_, rfl⟩
    obtain ⟨L1, hL1q⟩ : ∃ z9, LfF sn n D (fun j => j == kk || f j) = z9 := ⟨_, rfl⟩
    have HAD := Lib.hid (show adE M L (kk : Int) x.d x.p = 0 by rw [← HXE.out, ← hLq]; exact ad_lf hS.out HKN.out)
    have HAL := Lib.hid (show adL M L (kk : Int) x.d x.p = L1 by rw [← HXE.out, ← hLq, ← hL1q]; exact al_lf hS.out HKN.out)
    have HLN := Lib.hid (show L.length = n by rw [← hLq]; exact lf_len _ _ _ _)
    have HL1N := Lib.hid (show L1.length = n by rw [← hL1q]; exact lf_len _ _ _ _)
    have HLS := Lib.hid (show ∀ x ∈ L, x.length ≤ 1000 from fun x hx => lf_small hS.out (by rw [hLq]; exact hx))
    have HDL := Lib.hid (show x.d.length ≤ 1000 by
      rw [← HXE.out]
      have h1 := (chk_pos hS.out HKN.out).2.1
      have h2 := hS.out.s2
      show (chk sn D kk).length ≤ 1000
      omega)
    have HXI := Lib.hid (show x.i = (kk : Int) by rw [← HXE.out])
    rw [hLq] at HRR
    replace hLq := Lib.hid hLq
    replace hL1q := Lib.hid hL1q
    obtain ⟨b, off, e9, ya, yc, qa, qc, x0, x1, x2, xz, hy0, hy1⟩ := pcs_at (HPP.out) HGK.out
    rw [HXI.out] at x0
    subst e9
    have HX0 := Lib.hid x0
    have HX1 := Lib.hid x1
    have HX2 := Lib.hid x2
    have HXZ := Lib.hid xz
    have HY0 := Lib.hid hy0
    have HY1 := Lib.hid hy1
    clear x0 x1 x2 xz hy0 hy1
    go_upto_region 12 with fail
    clear t0 t1 t2 t3 t4 t5 t6 t6b t7 t8 t9 ta o0 oz
    obtain ⟨lit, hlit⟩ : ∃ lit : (Nat → Value) → Act, lit = fun vs => { tmps := List.toArray (Value.int IntKind.i64 key :: Value.int IntKind.i64 ver :: Value.int IntKind.i64 s :: Value.slice va D.length vc :: Value.slice (some { block := ob, off := oo }) os.length oc :: undef :: undef :: undef :: undef :: undef :: u10 :: Value.bool true :: Value.pointer (some { block := U0.heap.size, off := 0 }) :: Value.slice (some { block := b, off := off }) n uc :: Value.bool true :: Value.slice (some { block := U0.heap.size + 1, off := 0 }) n n :: Value.int IntKind.i64 (i : Int) :: Value.int IntKind.i64 (kk : Int) :: vs 9 :: vs 11 :: u20 :: u21 :: u22 :: undef :: undef :: undef :: undef :: undef :: Value.bool true :: Value.slice va D.length vc :: Value.int IntKind.i64 (D.length : Int) :: Value.bool false :: Value.bool false :: Value.slice (some { block := ob, off := oo }) os.length oc :: Value.int IntKind.i64 (os.length : Int) :: Value.bool false :: Value.bool false :: undef :: Value.tuple #[Value.agg #[Value.int IntKind.i64 M.v, Value.int IntKind.i64 M.c, Value.int IntKind.i64 M.s, Value.int IntKind.i64 M.r, Value.int IntKind.i64 M.t, Value.slice uba n ubc], Value.slice (some { block := b, off := off }) n uc, Value.bool true] :: Value.int IntKind.i64 key :: Value.int IntKind.i64 ver :: Value.int IntKind.i64 s :: Value.slice va D.length vc :: Value.tuple #[Value.agg #[Value.int IntKind.i64 M.v, Value.int IntKind.i64 M.c, Value.int IntKind.i64 M.s, Value.int IntKind.i64 M.r, Value.int IntKind.i64 M.t, Value.slice uba n ubc], Value.slice (some { block := b, off := off }) n uc, Value.bool true] :: Value.agg #[Value.int IntKind.i64 M.v, Value.int IntKind.i64 M.c, Value.int IntKind.i64 M.s, Value.int IntKind.i64 M.r, Value.int IntKind.i64 M.t, Value.slice uba n ubc] :: Value.slice (some { block := b, off := off }) n uc :: Value.bool true :: Value.bool true :: Value.bool false :: undef :: Value.slice (some { block := b, off := off }) n uc :: Value.int IntKind.i64 (n : Int) :: Value.slice (some { block := U0.heap.size + 1, off := 0 }) n n :: Value.int IntKind.i64 (i : Int) :: Value.slice (some { block := ob, off := oo }) os.length oc :: Value.int IntKind.i64 (os.length : Int) :: Value.bool true :: u57 :: u58 :: Value.slice (some { block := ob, off := oo }) os.length oc :: Value.int IntKind.i64 (i : Int) :: Value.pointer (some { block := ob, off := oo + i }) :: Value.int IntKind.u8 y :: Value.int IntKind.i64 y :: Value.slice (some { block := b, off := off }) n uc :: Value.int IntKind.i64 (n : Int) :: Value.int IntKind.i64 (kk : Int) :: vs 6 :: vs 0 :: vs 1 :: vs 2 :: vs 3 :: vs 4 :: vs 5 :: vs 7 :: vs 8 :: u76 :: u77 :: u78 :: u79 :: u80 :: u81 :: u82 :: u83 :: u84 :: u85 :: u86 :: u87 :: u88 :: u89 :: u90 :: u91 :: u92 :: u93 :: u94 :: u95 :: u96 :: u97 :: u98 :: u99 :: u100 :: u101 :: u102 :: u103 :: u104 :: u105 :: u106 :: u107 :: u108 :: u109 :: u110 :: u111 :: u112 :: undef :: undef :: undef :: undef :: undef :: undef :: undef :: undef :: undef :: undef :: undef :: undef :: undef :: undef :: undef :: undef :: undef :: undef :: undef :: undef :: undef :: undef :: undef :: undef :: undef :: undef :: undef :: undef :: undef :: undef :: undef :: undef :: undef :: undef :: undef :: undef :: undef :: undef :: undef :: undef :: []), defers := [] } := ⟨_, rfl⟩
    have HLIT := Lib.hid hlit
    clear hlit
    obtain ⟨val, hval⟩ : ∃ val : List Value, val = [.agg #[.int .i64 M.v, .int .i64 M.c, .int .i64 M.s, .int .i64 M.r, .int .i64 M.t, .slice ra n rc], .slice (some ⟨b, off, none⟩) n uc, .int .i64 (kk : Int), .pointer (some ⟨b, off + kk * 3, none⟩), .agg #[.int .i64 (kk : Int), .slice ya x.d.length yc, .slice qa x.p.length qc], undef, undef, undef, .int .i64 0, undef, undef, .int .i64 0] := ⟨_, rfl⟩
    have E0 := Lib.hid (show val.getD 0 undef = .agg #[.int .i64 M.v, .int .i64 M.c, .int .i64 M.s, .int .i64 M.r, .int .i64 M.t, .slice ra n rc] by rw [hval]; rfl)
    have E1 := Lib.hid (show val.getD 1 undef = .slice (some ⟨b, off, none⟩) n uc by rw [hval]; rfl)
    have E2 := Lib.hid (show val.getD 2 undef = .int .i64 (kk : Int) by rw [hval]; rfl)
    have E3 := Lib.hid (show val.getD 3 undef = .pointer (some ⟨b, off + kk * 3, none⟩) by rw [hval]; rfl)
    have E4 := Lib.hid (show val.getD 4 undef = .agg #[.int .i64 (kk : Int), .slice ya x.d.length yc, .slice qa x.p.length qc] by rw [hval]; rfl)
    have E8 := Lib.hid (show val.getD 8 undef = .int .i64 0 by rw [hval]; rfl)
    have E11 := Lib.hid (show val.getD 11 undef = .int .i64 0 by rw [hval]; rfl)
    clear hval
    obtain ⟨G, hG0⟩ : ∃ G : Bool → Nat → Value → World → Prop, G = (fun bq iq vq ww => (iq = 5 → QoT 0 M L1 n 0 bq vq ww) ∧ (iq = 6 → QoT 0 M L1 n 0 bq vq ww) ∧ (iq = 7 → QoA 0 M L1 n bq vq ww) ∧ (iq = 9 → QoK wr.heap.size M L1 n bq vq ww) ∧ (iq ≠ 5 → iq ≠ 6 → iq ≠ 7 → iq ≠ 9 → iq ≠ 10 → vq = val.getD iq undef)) := ⟨_, rfl⟩
    have HG := Lib.hid hG0
    clear hG0
    refine region_inv (NS lit 10 (fun p q => (p == 10 && q == 0) || (p == 10 && q == 4) || (p == 10 && q == 5) || (p == 10 && q == 6) || (p == 10 && q == 7) || (p == 10 && q == 9) || (p == 10 && q == 1) || (p == 10 && q == 2) || (p == 10 && q == 3)) G fun bq wv => (bq = false → Below wr.heap.size wr wv) ∧ (bq = true → Below wr.heap.size wr wv)) (by kernel_rfl) (by decide +kernel) ?_ ?_ ?_
    · exact NS.start (fun i => ([u68, u69, u70, u71, u72, u73, u67, u74, u75, u18, undef, u19] : List Value).getD i undef) (by rw [HLIT.out]; rfl) ⟨fun _ => below_drew _ _, fun h => (by cases h)⟩
    · refine ⟨?_, ?_, ?_, ?_, ?_, ?_, ?_, ?_, ?_, ?_, ?_, ?_, trivial⟩
      · intro bf ac wv hfb haf hJ K' hK
        obtain ⟨vs, rfl, ja, hB, j4⟩ := hJ
        replace hK := Lib.hid hK
        rw [HG.out] at j4
        have hd : bf 10 = false := by
          cases h : bf 10
          · rfl
          · exact absurd ((ja 10 0 rfl h).symm.trans hfb) (by simp)
        have hM := Lib.hid (hB.1 hd)
        replace j4 := Lib.hid (And.intro ja j4)
        replace hB := Lib.hid hB
        clear ja haf
        have x0 := ((cs_of_box HSS.out).step hM.out).c 0 rfl
        have x1 := ((cs_of_box HSS.out).step hM.out).c 1 rfl
        have x2 := ((cs_of_box HSS.out).step hM.out).c 2 rfl
        have x3 := ((cs_of_box HSS.out).step hM.out).c 3 rfl
        have x4 := ((cs_of_box HSS.out).step hM.out).c 4 rfl
        have x5 := ((cs_of_box HSS.out).step hM.out).c 5 rfl
        have xz := ((cs_of_box HSS.out).step hM.out).2.2
        rw [HLIT.out]
        go_simp
        exact hK.out _ _ (NS.next (wv := wv) (vs := vs) 0 (by omega) (fun q h => absurd h (by simp)) (x := .agg #[.int .i64 M.v, .int .i64 M.c, .int .i64 M.s, .int .i64 M.r, .int .i64 M.t, .slice ra n rc]) (by rw [HLIT.out]; rfl) (by rw [HG.out]; exact j4.out) hB.out (by rw [HG.out]; exact fun _ _ h => h) (by rw [HG.out]; exact ⟨fun h => absurd h (by decide), fun h => absurd h (by decide), fun h => absurd h (by decide), fun h => absurd h (by decide), fun _ _ _ _ _ => E0.out.symm⟩))
      · intro bf ac wv hfb haf hJ K' hK
        obtain ⟨vs, rfl, ja, hB, j4⟩ := hJ
        replace hK := Lib.hid hK
        rw [HG.out] at j4
        replace j4 := Lib.hid (And.intro ja j4)
        replace hB := Lib.hid hB
        clear ja haf
        rw [HLIT.out]
        go_simp
        exact hK.out _ _ (NS.next (wv := wv) (vs := vs) 1 (by omega) (fun q h => absurd h (by simp)) (x := .slice (some ⟨b, off, none⟩) n uc) (by rw [HLIT.out]; rfl) (by rw [HG.out]; exact j4.out) hB.out (by rw [HG.out]; exact fun _ _ h => h) (by rw [HG.out]; exact ⟨fun h => absurd h (by decide), fun h => absurd h (by decide), fun h => absurd h (by decide), fun h => absurd h (by decide), fun _ _ _ _ _ => E1.out.symm⟩))
      · intro bf ac wv hfb haf hJ K' hK
        obtain ⟨vs, rfl, ja, hB, j4⟩ := hJ
        replace hK := Lib.hid hK
        rw [HG.out] at j4
        replace j4 := Lib.hid (And.intro ja j4)
        replace hB := Lib.hid hB
        clear ja haf
        rw [HLIT.out]
        go_simp
        exact hK.out _ _ (NS.next (wv := wv) (vs := vs) 2 (by omega) (fun q h => absurd h (by simp)) (x := .int .i64 (kk : Int)) (by rw [HLIT.out]; rfl) (by rw [HG.out]; exact j4.out) hB.out (by rw [HG.out]; exact fun _ _ h => h) (by rw [HG.out]; exact ⟨fun h => absurd h (by decide), fun h => absurd h (by decide), fun h => absurd h (by decide), fun h => absurd h (by decide), fun _ _ _ _ _ => E2.out.symm⟩))
      · intro bf ac wv hfb haf hJ K' hK
        obtain ⟨vs, rfl, ja, hB, j4⟩ := hJ
        replace hK := Lib.hid hK
        simp [Region.binds] at haf
        rw [HG.out] at j4
        have e1 := ((j4 1 (by simp [haf])).2.2.2.2 (by decide) (by decide) (by decide) (by decide) (by decide)).trans E1.out
        have e2 := ((j4 2 (by simp [haf])).2.2.2.2 (by decide) (by decide) (by decide) (by decide) (by decide)).trans E2.out
        have hd : bf 10 = false := by
          cases h : bf 10
          · rfl
          · exact absurd ((ja 10 3 rfl h).symm.trans hfb) (by simp)
        have hM := Lib.hid (hB.1 hd)
        replace j4 := Lib.hid (And.intro ja j4)
        replace hB := Lib.hid hB
        clear ja haf
        have t3 : (kk : Int) < (n : Int) := by have := HKN.out; omega
        have t3b : (kk : Int).toNat = kk := Int.toNat_natCast kk
        have t3c := HKN.out
        have t3d : (0 : Int) ≤ (kk : Int) := by omega
        rw [HLIT.out]
        go_simp
        exact hK.out _ _ (NS.next (wv := wv) (vs := vs) 3 (by omega) (fun q h => absurd h (by simp)) (x := .pointer (some ⟨b, off + kk * 3, none⟩)) (by rw [HLIT.out]; simp only [upv, e1, e2, Nat.reduceBEq, cond_true, cond_false]) (by rw [HG.out]; exact j4.out) hB.out (by rw [HG.out]; exact fun _ _ h => h) (by rw [HG.out]; exact ⟨fun h => absurd h (by decide), fun h => absurd h (by decide), fun h => absurd h (by decide), fun h => absurd h (by decide), fun _ _ _ _ _ => E3.out.symm⟩))
      · intro bf ac wv hfb haf hJ K' hK
        obtain ⟨vs, rfl, ja, hB, j4⟩ := hJ
        replace hK := Lib.hid hK
        simp [Region.binds] at haf
        rw [HG.out] at j4
        have e3 := ((j4 3 (by simp [haf])).2.2.2.2 (by decide) (by decide) (by decide) (by decide) (by decide)).trans E3.out
        have hd : bf 10 = false := by
          cases h : bf 10
          · rfl
          · exact absurd ((ja 10 4 rfl h).symm.trans hfb) (by simp)
        have hM := Lib.hid (hB.1 hd)
        replace j4 := Lib.hid (And.intro ja j4)
        replace hB := Lib.hid hB
        clear ja haf
        have r0 := keep1 hM.out HX0.out
        have r1 := keep1 hM.out HX1.out
        have r2 := keep1 hM.out HX2.out
        have rz := Nat.lt_of_lt_of_le HXZ.out hM.out.size
        rw [HLIT.out]
        go_simp
        exact hK.out _ _ (NS.next (wv := wv) (vs := vs) 4 (by omega) (fun q h => absurd h (by simp)) (x := .agg #[.int .i64 (kk : Int), .slice ya x.d.length yc, .slice qa x.p.length qc]) (by rw [HLIT.out]; simp only [upv, e3, Nat.reduceBEq, cond_true, cond_false]) (by rw [HG.out]; exact j4.out) hB.out (by rw [HG.out]; exact fun _ _ h => h) (by rw [HG.out]; exact ⟨fun h => absurd h (by decide), fun h => absurd h (by decide), fun h => absurd h (by decide), fun h => absurd h (by decide), fun _ _ _ _ _ => E4.out.symm⟩))
      · intro bf ac wv hfb haf hJ K' hK
        obtain ⟨vs, rfl, ja, hB, j4⟩ := hJ
        replace hK := Lib.hid hK
        simp [Region.binds] at haf
        rw [HG.out] at j4
        have e0 := ((j4 0 (by simp [haf])).2.2.2.2 (by decide) (by decide) (by decide) (by decide) (by decide)).trans E0.out
        have e4 := ((j4 4 (by simp [haf])).2.2.2.2 (by decide) (by decide) (by decide) (by decide) (by decide)).trans E4.out
        have hd : bf 10 = false := by
          cases h : bf 10
          · rfl
          · exact absurd ((ja 10 5 rfl h).symm.trans hfb) (by simp)
        have hM := Lib.hid (hB.1 hd)
        replace j4 := Lib.hid (And.intro ja j4)
        replace hB := Lib.hid hB
        clear ja haf
        rw [HLIT.out]
        go_simp
        go_at_call 15
        refine (add_any M (kk : Int) _ L _ x.d _ x.p wv (HRR.out.step hM.out).rows (HY0.out.step hM.out) (HY1.out.step hM.out) (by rw [HLN.out]; have := hS.out.n2; omega) HLS.out HDL.out HAD.out HAL.out).mono ?_
        rintro e w4 ⟨u4, nnr, rfl, -, hr, b4⟩
        obtain ⟨uar, ucr, rfl⟩ : ∃ (a : Option Addr) (c : Nat), u4 = .slice a n c := by
          obtain ⟨a, c, e, -⟩ := hr
          rw [HL1N.out] at e
          exact ⟨a, c, e⟩
        exact hK.out _ _ (NS.next (wv := wv) (vs := vs) 5 (by omega) (fun q h => absurd h (by simp)) (x := (.tuple #[.agg #[.int .i64 M.v, .int .i64 M.c, .int .i64 M.s, .int .i64 M.r, .int .i64 M.t, .slice uar n ucr], .int .i64 0])) (by rw [HLIT.out]; simp only [upv, e0, e4, Nat.reduceBEq, cond_true, cond_false]) (by rw [HG.out]; exact j4.out) ⟨fun _ => keep2 b4 hM.out, fun e => absurd (e.symm.trans hd) (by simp)⟩ (by rw [HG.out]; exact fun k hbk h => ⟨fun q => (h.1 q).step b4, fun q => (h.2.1 q).step b4, fun q => (h.2.2.1 q).step b4, fun q => (h.2.2.2.1 q).step b4, h.2.2.2.2⟩) (by rw [HG.out]; exact ⟨fun _ => ⟨uar, ucr, nnr, rfl, fun _ => hr⟩, fun h => absurd h (by decide), fun h => absurd h (by decide), fun h => absurd h (by decide), fun h5 => absurd rfl h5⟩))
      · intro bf ac wv hfb haf hJ K' hK
        obtain ⟨vs, rfl, ja, hB, j4⟩ := hJ
        replace hK := Lib.hid hK
        simp [Region.binds] at haf
        rw [HG.out] at j4
        have e5 := (j4 5 (by simp [haf])).1 rfl
        replace j4 := Lib.hid (And.intro ja j4)
        replace hB := Lib.hid hB
        clear ja haf
        obtain ⟨uar, ucr, nnr, e5, hr⟩ := e5
        rw [HLIT.out]
        go_simp
        exact hK.out _ _ (NS.next (wv := wv) (vs := vs) 6 (by omega) (fun q h => absurd h (by simp)) (x := (.tuple #[.agg #[.int .i64 M.v, .int .i64 M.c, .int .i64 M.s, .int .i64 M.r, .int .i64 M.t, .slice uar n ucr], .int .i64 0])) (by rw [HLIT.out]; simp only [upv, e5, Nat.reduceBEq, cond_true, cond_false]) (by rw [HG.out]; exact j4.out) hB.out (by rw [HG.out]; exact fun _ _ h => h) (by rw [HG.out]; exact ⟨fun h => absurd h (by decide), fun _ => ⟨uar, ucr, nnr, rfl, hr⟩, fun h => absurd h (by decide), fun h => absurd h (by decide), fun h5 h6 => absurd rfl h6⟩))
      · intro bf ac wv hfb haf hJ K' hK
        obtain ⟨vs, rfl, ja, hB, j4⟩ := hJ
        replace hK := Lib.hid hK
        simp [Region.binds] at haf
        rw [HG.out] at j4
        have e6 := (j4 6 (by simp [haf])).2.1 rfl
        replace j4 := Lib.hid (And.intro ja j4)
        replace hB := Lib.hid hB
        clear ja haf
        obtain ⟨uar, ucr, nnr, e6, hr⟩ := e6
        rw [HLIT.out]
        go_simp
        exact hK.out _ _ (NS.next (wv := wv) (vs := vs) 7 (by omega) (fun q h => absurd h (by simp)) (x := (.agg #[.int .i64 M.v, .int .i64 M.c, .int .i64 M.s, .int .i64 M.r, .int .i64 M.t, .slice uar n ucr])) (by rw [HLIT.out]; simp only [upv, e6, Nat.reduceBEq, cond_true, cond_false]) (by rw [HG.out]; exact j4.out) hB.out (by rw [HG.out]; exact fun _ _ h => h) (by rw [HG.out]; exact ⟨fun h => absurd h (by decide), fun h => absurd h (by decide), fun _ => ⟨uar, ucr, nnr, rfl, hr⟩, fun h => absurd h (by decide), fun h5 h6 h7 => absurd rfl h7⟩))
      · intro bf ac wv hfb haf hJ K' hK
        obtain ⟨vs, rfl, ja, hB, j4⟩ := hJ
        replace hK := Lib.hid hK
        simp [Region.binds] at haf
        rw [HG.out] at j4
        have e6 := (j4 6 (by simp [haf])).2.1 rfl
        replace j4 := Lib.hid (And.intro ja j4)
        replace hB := Lib.hid hB
        clear ja haf
        obtain ⟨uar, ucr, nnr, e6, hr⟩ := e6
        rw [HLIT.out]
        go_simp
        exact hK.out _ _ (NS.next (wv := wv) (vs := vs) 8 (by omega) (fun q h => absurd h (by simp)) (x := .int .i64 0) (by rw [HLIT.out]; simp only [upv, e6, Nat.reduceBEq, cond_true, cond_false]) (by rw [HG.out]; exact j4.out) hB.out (by rw [HG.out]; exact fun _ _ h => h) (by rw [HG.out]; exact ⟨fun h => absurd h (by decide), fun h => absurd h (by decide), fun h => absurd h (by decide), fun h => absurd h (by decide), fun _ _ _ _ _ => E8.out.symm⟩))
      · intro bf ac wv hfb haf hJ K' hK
        obtain ⟨vs, rfl, ja, hB, j4⟩ := hJ
        replace hK := Lib.hid hK
        rw [HG.out] at j4
        have hd : bf 10 = false := by
          cases h : bf 10
          · rfl
          · exact absurd ((ja 10 9 rfl h).symm.trans hfb) (by simp)
        have hM := Lib.hid (hB.1 hd)
        replace j4 := Lib.hid (And.intro ja j4)
        replace hB := Lib.hid hB
        clear ja haf
        rw [HLIT.out]
        go_simp
        have b4 := al wv (.cells ZB6 27)
        exact hK.out _ _ (NS.next (wv := wv) (vs := vs) 9 (by omega) (fun q h => absurd h (by simp)) (x := (.pointer (some ⟨wv.heap.size, 0, none⟩))) (by rw [HLIT.out]; rfl) (by rw [HG.out]; exact j4.out) ⟨fun _ => keep2 b4 hM.out, fun e => absurd (e.symm.trans hd) (by simp)⟩ (by rw [HG.out]; exact fun k hbk h => ⟨fun q => (h.1 q).step b4, fun q => (h.2.1 q).step b4, fun q => (h.2.2.1 q).step b4, fun q => (h.2.2.2.1 q).step b4, h.2.2.2.2⟩) (by rw [HG.out]; exact ⟨fun h => absurd h (by decide), fun h => absurd h (by decide), fun h => absurd h (by decide), fun _ => ⟨wv.heap.size, rfl, hM.out.size, fun _ => BoxN.new wv ZB6 27, fun e => absurd (e.symm.trans hd) (by simp)⟩, fun h5 h6 h7 h9 => absurd rfl h9⟩))
      · intro bf ac wv hfb haf hJ K' hK
        obtain ⟨vs, rfl, ja, hB, j4⟩ := hJ
        replace hK := Lib.hid hK
        simp [Region.binds] at haf
        rw [HG.out] at j4
        have e7 := (j4 7 (by simp [haf])).2.2.1 rfl
        have e9 := (j4 9 (by simp [haf])).2.2.2.1 rfl
        rw [hfb] at j4 hB
        try rw [hfb] at e7
        try rw [hfb] at e9
        have HA := Lib.hid (show ∀ q, (fun p q => (p == 10 && q == 0) || (p == 10 && q == 4) || (p == 10 && q == 5) || (p == 10 && q == 6) || (p == 10 && q == 7) || (p == 10 && q == 9) || (p == 10 && q == 1) || (p == 10 && q == 2) || (p == 10 && q == 3)) 10 q = true → bf q = true from fun q hi => by
          obtain rfl | rfl | rfl | rfl | rfl | rfl | rfl | rfl | rfl : q = 0 ∨ q = 4 ∨ q = 5 ∨ q = 6 ∨ q = 7 ∨ q = 9 ∨ q = 1 ∨ q = 2 ∨ q = 3 := by simpa [or_assoc] using hi
          all_goals simp [haf])
        have hM := Lib.hid (hB.1 rfl)
        replace j4 := Lib.hid j4
        have HE := Lib.hid (And.intro ja HA.out)
        clear ja haf hB HA
        obtain ⟨k, e9, hk, hz, -⟩ := e9
        replace hz := hz rfl
        obtain ⟨uar, ucr, nnr, e7, hr⟩ := e7
        replace hr := Lib.hid (hr rfl)
        replace hk := Lib.hid hk
        have HZ := Lib.hid hz
        have HZC := Lib.hid (cs_of_box hz)
        have x0 := HZC.out.c 0 rfl
        have y0 := HZC.out.f 0 (by simp [ZB6])
        have x1 := HZC.out.c 1 rfl
        have y1 := HZC.out.f 1 (by simp [ZB6])
        have x2 := HZC.out.c 2 rfl
        have y2 := HZC.out.f 2 (by simp [ZB6])
        have x3 := HZC.out.c 3 rfl
        have y3 := HZC.out.f 3 (by simp [ZB6])
        have x4 := HZC.out.c 4 rfl
        have y4 := HZC.out.f 4 (by simp [ZB6])
        have x5 := HZC.out.c 5 rfl
        have y5 := HZC.out.f 5 (by simp [ZB6])
        have xz := HZC.out.2.2
        clear hz
        rw [HLIT.out]
        go_simp
        have p1 : BxO 0 M L1 n k (putS wv k M (.slice uar n ucr)) := ⟨uar, ucr, nnr, box_putS HZ.out rfl M _, hr.out.putS (Nat.zero_le _) (tyB_box HZ.out) M _⟩
        have p3 : Below wr.heap.size wv (putS wv k M (.slice uar n ucr)) := putS_below _ hk.out M _
        exact hK.out _ _ (NS.put (vs := vs) (w' := putS wv k M (.slice uar n ucr)) (by rw [HLIT.out]; simp only [e9, e7]) HE.out ⟨fun e => (by cases e), fun _ => hM.out.trans p3⟩ (fun j hj hb => by
          rw [HG.out]
          have q := j4.out j hb
          exact ⟨fun h => (q.1 h).put _, fun h => (q.2.1 h).put _, fun h => (q.2.2.1 h).put _, fun h => by
            subst h
            exact ⟨k, e9, hk.out, fun e => (by cases e), fun _ => p1⟩, q.2.2.2.2⟩) (fun v => by rw [HG.out]; exact ⟨fun h => absurd h (by decide), fun h => absurd h (by decide), fun h => absurd h (by decide), fun h => absurd h (by decide), fun h5 h6 h7 h9 h10 => absurd rfl h10⟩))
      · intro bf ac wv hfb haf hJ K' hK
        obtain ⟨vs, rfl, ja, hB, j4⟩ := hJ
        replace hK := Lib.hid hK
        simp [Region.binds] at haf
        rw [HG.out] at j4
        have e8 := ((j4 8 (by simp [haf])).2.2.2.2 (by decide) (by decide) (by decide) (by decide) (by decide)).trans E8.out
        replace j4 := Lib.hid (And.intro ja j4)
        replace hB := Lib.hid hB
        clear ja haf
        rw [HLIT.out]
        go_simp
        exact hK.out _ _ (NS.next (wv := wv) (vs := vs) 11 (by omega) (fun q h => absurd h (by simp)) (x := .int .i64 0) (by rw [HLIT.out]; simp only [upv, e8, Nat.reduceBEq, cond_true, cond_false]) (by rw [HG.out]; exact j4.out) hB.out (by rw [HG.out]; exact fun _ _ h => h) (by rw [HG.out]; exact ⟨fun h => absurd h (by decide), fun h => absurd h (by decide), fun h => absurd h (by decide), fun h => absurd h (by decide), fun _ _ _ _ _ => E11.out.symm⟩))
    · intro bf ac wv hall hJ
      obtain ⟨vs, rfl, -, hB, j4⟩ := hJ
      rw [HG.out] at j4
      rw [hall 10 (by decide)] at hB j4
      have hM := Lib.hid (hB.2 rfl)
      clear hB
      obtain ⟨k9, e9, hk9, -, hbx⟩ := (j4 9 (hall 9 (by decide))).2.2.2.1 rfl
      replace hbx := hbx rfl
      have e11 := ((j4 11 (hall 11 (by decide))).2.2.2.2 (by decide) (by decide) (by decide) (by decide) (by decide)).trans E11.out
      have HK9 := Lib.hid hk9
      have HBX := Lib.hid hbx
      have HB9 := Lib.hid hM.out
      clear hM j4 hall hk9 hbx
      rw [HLIT.out]
      dsimp only
      rw [e9, e11]
      clear e9 e11 HLIT HG
      generalize vs = us129
      obtain ⟨W5, hW5⟩ : ∃ z9, wv = z9 := ⟨_, rfl⟩
      rw [hW5] at HBX HB9 ⊢
      clear hW5
      obtain ⟨ra1, rc1, n21, hbo, how⟩ := HBX.out
      have HBO := Lib.hid hbo
      have HOW := Lib.hid how
      clear hbo how HBX
      have HA5 := Lib.hid (HAA.out.step HB9.out)
      have HS5 := Lib.hid (HSS.out.step HB9.out)
      have HU5 := Lib.hid (HUU.out.trans (HB9.out.mono HUU.out.size))
      have HG9 := Lib.hid (show U0.heap.size + 1 < k9 by have h1 := HGL.out; have h2 := HVV.out; have h3 := HK9.out; omega)
      have HV5 := Lib.hid (Nat.le_trans HVV.out HB9.out.size)
      clear HSS HRR HAA HUU HPP HB9 HVV
      have a0 := HA5.out.c HKN.out
      have a1 := HA5.out.frz kk
      have a2 := HA5.out.lt
      have t1 : (kk : Int) < (n : Int) := by have := HKN.out; omega
      have t2 : (kk : Int).toNat = kk := Int.toNat_natCast kk
      have t3 := HKN.out
      have t4 : (0 : Int) ≤ (kk : Int) := by omega
      go_upto_region 16 with fail
      clear a0 a1 a2 t1 t2 t3 t4
      have HA6 := Lib.hid (HA5.out.set HKN.out)
      have HS6 := Lib.hid (HS5.out.away (show U0.heap.size ≠ U0.heap.size + 1 by omega) kk (.bool true))
      have HBO6 := Lib.hid (HBO.out.away (show k9 ≠ U0.heap.size + 1 by have := HG9.out; omega) kk (.bool true))
      have HOW6 := Lib.hid (HOW.out.off (Nat.zero_le _) HA5.out.ty (by decide) (by decide) kk (.bool true))
      have HU6 := Lib.hid (HU5.out.setCell (p := ⟨U0.heap.size + 1, kk, none⟩) (show U0.heap.size ≤ U0.heap.size + 1 by omega) (.bool true))
      have HV6 := Lib.hid (show V0.heap.size ≤ (W5.setCell ⟨U0.heap.size + 1, kk, none⟩ (.bool true)).heap.size by rw [World.size_setCell]; exact HV5.out)
      clear HA5 HS5 HBO HOW HU5 HV5
      obtain ⟨W6, hW6⟩ : ∃ z9, (W5.setCell ⟨U0.heap.size + 1, kk, none⟩ (.bool true)) = z9 := ⟨_, rfl⟩
      rw [hW6] at HA6 HS6 HBO6 HOW6 HU6 HV6 ⊢
      clear hW6
      have a0 := (cs_of_box HS6.out).c 0 rfl
      have b0 := (cs_of_box HS6.out).f 0 (by simp)
      have c0 := (cs_of_box HBO6.out).c 0 rfl
      have a1 := (cs_of_box HS6.out).c 1 rfl
      have b1 := (cs_of_box HS6.out).f 1 (by simp)
      have c1 := (cs_of_box HBO6.out).c 1 rfl
      have a2 := (cs_of_box HS6.out).c 2 rfl
      have b2 := (cs_of_box HS6.out).f 2 (by simp)
      have c2 := (cs_of_box HBO6.out).c 2 rfl
      have a3 := (cs_of_box HS6.out).c 3 rfl
      have b3 := (cs_of_box HS6.out).f 3 (by simp)
      have c3 := (cs_of_box HBO6.out).c 3 rfl
      have a4 := (cs_of_box HS6.out).c 4 rfl
      have b4 := (cs_of_box HS6.out).f 4 (by simp)
      have c4 := (cs_of_box HBO6.out).c 4 rfl
      have a5 := (cs_of_box HS6.out).c 5 rfl
      have b5 := (cs_of_box HS6.out).f 5 (by simp)
      have c5 := (cs_of_box HBO6.out).c 5 rfl
      have az := HS6.out.lt
      have cz := HBO6.out.lt
      go_upto_region 17 with fail
      clear az cz a0 b0 c0 a1 b1 c1 a2 b2 c2 a3 b3 c3 a4 b4 c4 a5 b5 c5
      have HS7 := Lib.hid (show BoxN ((((((W6.setCell ⟨U0.heap.size, 0, none⟩ (.int .i64 M.v)).setCell ⟨U0.heap.size, 1, none⟩ (.int .i64 M.c)).setCell ⟨U0.heap.size, 2, none⟩ (.int .i64 M.s)).setCell ⟨U0.heap.size, 3, none⟩ (.int .i64 M.r)).setCell ⟨U0.heap.size, 4, none⟩ (.int .i64 M.t)).setCell ⟨U0.heap.size, 5, none⟩ (.slice ra1 n rc1)) U0.heap.size #[.int .i64 M.v, .int .i64 M.c, .int .i64 M.s, .int .i64 M.r, .int .i64 M.t, .slice ra1 n rc1] 27 from box_putS HS6.out rfl M (.slice ra1 n rc1))
      have HOW7 := Lib.hid (show OwR 0 n21 L1 (.slice ra1 n rc1) ((((((W6.setCell ⟨U0.heap.size, 0, none⟩ (.int .i64 M.v)).setCell ⟨U0.heap.size, 1, none⟩ (.int .i64 M.c)).setCell ⟨U0.heap.size, 2, none⟩ (.int .i64 M.s)).setCell ⟨U0.heap.size, 3, none⟩ (.int .i64 M.r)).setCell ⟨U0.heap.size, 4, none⟩ (.int .i64 M.t)).setCell ⟨U0.heap.size, 5, none⟩ (.slice ra1 n rc1)) from HOW6.out.putS (Nat.zero_le _) (tyB_box HS6.out) M (.slice ra1 n rc1))
      have HA7 := Lib.hid (show AdW ((((((W6.setCell ⟨U0.heap.size, 0, none⟩ (.int .i64 M.v)).setCell ⟨U0.heap.size, 1, none⟩ (.int .i64 M.c)).setCell ⟨U0.heap.size, 2, none⟩ (.int .i64 M.s)).setCell ⟨U0.heap.size, 3, none⟩ (.int .i64 M.r)).setCell ⟨U0.heap.size, 4, none⟩ (.int .i64 M.t)).setCell ⟨U0.heap.size, 5, none⟩ (.slice ra1 n rc1)) (U0.heap.size + 1) n (fun j => j == kk || f j) from HA6.out.putS (by omega) M (.slice ra1 n rc1))
      have HU7 := Lib.hid (show Below U0.heap.size U0 ((((((W6.setCell ⟨U0.heap.size, 0, none⟩ (.int .i64 M.v)).setCell ⟨U0.heap.size, 1, none⟩ (.int .i64 M.c)).setCell ⟨U0.heap.size, 2, none⟩ (.int .i64 M.s)).setCell ⟨U0.heap.size, 3, none⟩ (.int .i64 M.r)).setCell ⟨U0.heap.size, 4, none⟩ (.int .i64 M.t)).setCell ⟨U0.heap.size, 5, none⟩ (.slice ra1 n rc1)) from HU6.out.trans (putS_below W6 (Nat.le_refl _) M (.slice ra1 n rc1)))
      have HV7 := Lib.hid (show V0.heap.size ≤ ((((((W6.setCell ⟨U0.heap.size, 0, none⟩ (.int .i64 M.v)).setCell ⟨U0.heap.size, 1, none⟩ (.int .i64 M.c)).setCell ⟨U0.heap.size, 2, none⟩ (.int .i64 M.s)).setCell ⟨U0.heap.size, 3, none⟩ (.int .i64 M.r)).setCell ⟨U0.heap.size, 4, none⟩ (.int .i64 M.t)).setCell ⟨U0.heap.size, 5, none⟩ (.slice ra1 n rc1)).heap.size by simp only [World.size_setCell]; exact HV6.out)
      clear HS6 HOW6 HA6 HU6 HV6 HBO6
      obtain ⟨W7, hW7⟩ : ∃ z9, ((((((W6.setCell ⟨U0.heap.size, 0, none⟩ (.int .i64 M.v)).setCell ⟨U0.heap.size, 1, none⟩ (.int .i64 M.c)).setCell ⟨U0.heap.size, 2, none⟩ (.int .i64 M.s)).setCell ⟨U0.heap.size, 3, none⟩ (.int .i64 M.r)).setCell ⟨U0.heap.size, 4, none⟩ (.int .i64 M.t)).setCell ⟨U0.heap.size, 5, none⟩ (.slice ra1 n rc1)) = z9 := ⟨_, rfl⟩
      rw [hW7] at HS7 HOW7 HA7 HU7 HV7 ⊢
      clear hW7
      have a0 := (cs_of_box HS7.out).c 0 rfl
      have a1 := (cs_of_box HS7.out).c 1 rfl
      have a2 := (cs_of_box HS7.out).c 2 rfl
      have a3 := (cs_of_box HS7.out).c 3 rfl
      have a4 := (cs_of_box HS7.out).c 4 rfl
      have a5 := (cs_of_box HS7.out).c 5 rfl
      have az := HS7.out.lt
      go_wp2_with fail
      refine (miss_any M _ L1 W7 HOW7.out.rows (by rw [HL1N.out]; have := HN0.out; omega) (fun x hx => lf_small hS.out (by rw [hL1q.out]; exact hx))).mono ?_
      rintro e W8 ⟨mu, rfl, hmu, b8⟩
      clear az a0 a1 a2 a3 a4 a5
      have HS8 := Lib.hid (HS7.out.step b8)
      have HOW8 := Lib.hid (HOW7.out.step b8)
      have HA8 := Lib.hid (HA7.out.step b8)
      have HU8 := Lib.hid (HU7.out.trans (b8.mono HU7.out.size))
      have HV8 := Lib.hid (Nat.le_trans HV7.out b8.size)
      clear b8 HS7 HOW7 HA7 HU7 HV7
      rw [show msB M L1 = msN L1 n by rw [← hL1q.out]; exact ms_lf hS.out] at hmu
      have HMS := Lib.hid (show ∀ k, k < n → ((fun j => j == kk || f j) k = true → msN L1 (k + 1) = msN L1 k) ∧ ((fun j => j == kk || f j) k = false → (msN L1 (k + 1)).length = (msN L1 k).length + 1 ∧ (msN L1 k).length < (msN L1 n).length ∧ (msN L1 n)[(msN L1 k).length]? = some (k : Int)) from fun k hk => by
        rw [← hL1q.out]
        exact ms_at (f := fun j => j == kk || f j) hS.out hk)
      have HM0 := Lib.hid (show (msN L1 0).length = 0 from rfl)
      obtain ⟨f1, hf1⟩ : ∃ z9, (fun j => j == kk || f j) = z9 := ⟨_, rfl⟩
      rw [hf1] at HA8 HMS hL1q
      clear hf1
      obtain ⟨cnt, hcnt⟩ : ∃ z9, (fun k => (msN L1 k).length) = z9 := ⟨_, rfl⟩
      have HCN := Lib.hid (show ∀ k, (msN L1 k).length = cnt k from fun k => by rw [← hcnt])
      clear hcnt
      obtain ⟨ms, hms⟩ : ∃ z9, msN L1 n = z9 := ⟨_, rfl⟩
      have HMN := Lib.hid hms
      rw [hms] at hmu HMS
      clear hms
      have HMQ := Lib.hid (show ∀ k, k < n → (f1 k = true → cnt (k + 1) = cnt k) ∧ (f1 k = false → cnt (k + 1) = cnt k + 1 ∧ cnt k < ms.length ∧ ms[cnt k]? = some (k : Int)) from fun k hk => by
        have q := HMS.out k hk
        refine ⟨fun hf => by rw [← HCN.out, ← HCN.out, q.1 hf], fun hf => ?_⟩
        have q2 := q.2 hf
        rw [HCN.out, HCN.out] at q2
        exact q2)
      have HCE := Lib.hid (show cnt n = ms.length by rw [← HCN.out, HMN.out])
      have HC0 := Lib.hid (show cnt 0 = 0 by rw [← HCN.out]; exact HM0.out)
      have HCB := Lib.hid (show ms.length ≤ n by rw [← HMN.out]; exact msN_len L1 n)
      clear HMS HM0
      have HMU := Lib.hid hmu
      obtain ⟨ma, mc, rfl, -, -⟩ : ∃ (a : Option Addr) (c : Nat), mu = .slice a ms.length c ∧ True ∧ True := by
        obtain ⟨a, c, e, -⟩ := hmu
        exact ⟨a, c, e, trivial, trivial⟩
      clear hmu
      go_wp2_with fail
      go_loopw [20, 22] (fun nv jv wq => ∃ j : Nat, j ≤ n ∧ jv = .int .i64 (j : Int) ∧ nv = .int .i64 ((cnt j : Nat) : Int) ∧ wq = W8) (fun _ jv _ => n - (intOf jv).toNat)
      case atStart => exact ⟨0, by omega, rfl, by rw [HC0.out]; rfl, rfl⟩
      case round =>
        obtain ⟨j, hj, rfl, rfl, rfl⟩ := hrel
        by_cases hjl : j < n
        rotate_left
        · obtain rfl : j = n := by omega
          have t3 : ¬ (j : Int) < (j : Int) := by omega
          rw [HCE.out]
          have t4 : ((ms.length : Int) != (ms.length : Int)) = false := by simp
          have g2 : os.length ≤ 40 := hO.out
          have t9 : (i : Int) < (os.length : Int) := by have := HIL.out; omega
          go_wp2
          go_roundw
          case rel => exact ⟨i + 1, f1, ra1, rc1, n21, HIL.out, by go_num, HS8, (by rw [hL1q.out]; exact HOW8), HA8, HU8, HV8⟩
          case measure => have := HIL.out; simp [intOf]; omega
        have HJL := Lib.hid hjl
        have a0 := HA8.out.c hjl
        have a2 := HA8.out.lt
        have hq := HMQ.out j hjl
        have t1 : (j : Int) < (n : Int) := by omega
        have g2 : n ≤ 64 := HN0.out.2
        clear hj hjl
        cases hf : f1 j
        · obtain ⟨q1, q2, q3⟩ := hq.2 hf
          rw [hf] at a0
          have HQ1 := Lib.hid q1
          have HQ2 := Lib.hid q2
          obtain ⟨mb, mo, rfl, m0, mz⟩ : ∃ mb mo, ma = some ⟨mb, mo, none⟩ ∧ wr.cell? ⟨mb, mo + cnt j, none⟩ = some (.int .i64 (j : Int)) ∧ mb < wr.heap.size := by
            obtain ⟨a, c, e, -, hc⟩ := HMU.out
            obtain ⟨b2, o2, ha, hx⟩ := hc (fun q => by rw [q] at q2; simp at q2)
            have : ma = a := by simp at e; exact e.1
            exact ⟨b2, o2, this.trans ha, hx _ _ q3, World.block_lt_of_cell? _ _ (hx _ _ q3)⟩
          obtain ⟨cj, hcj⟩ : ∃ z9, cnt j = z9 := ⟨_, rfl⟩
          rw [hcj] at HQ1 HQ2 m0 ⊢
          have t2 : decide ((cj : Int) ≥ (ms.length : Int)) = false := decide_eq_false (by have := HQ2.out; omega)
          have t3 : decide ((ms.length : Int) ≤ (cj : Int)) = false := t2
          have t4 : ¬ (ms.length : Int) ≤ (cj : Int) := by have := HQ2.out; omega
          have t5 : ¬ ms.length ≤ cj := by have := HQ2.out; omega
          have t6 : decide (ms.length ≤ cj) = false := decide_eq_false t5
          have t7 : (cj : Int) < (ms.length : Int) := by have := HQ2.out; omega
          have t8 : ((j : Int) != (j : Int)) = false := by simp
          have g3 : ms.length ≤ n := HCB.out
          clear hq hf q1 q2 q3 hcj
          go_wp2
          go_roundw
          case rel => exact ⟨j + 1, HJL.out, by go_num, (by rw [HQ1.out]; go_num), trivial⟩
          case measure => have := HJL.out; simp [intOf]; omega
        · have HQ1 := Lib.hid (hq.1 hf)
          rw [hf] at a0
          obtain ⟨cj, hcj⟩ : ∃ z9, cnt j = z9 := ⟨_, rfl⟩
          rw [hcj] at HQ1 ⊢
          clear hq hf hcj
          go_wp2
          go_roundw
          case rel => exact ⟨j + 1, HJL.out, by go_num, (by rw [HQ1.out]), trivial⟩
          case measure => have := HJL.out; simp [intOf]; omega
theorem transfers_any (key ver s : Int) (v : Value) (D : List Int) (ov : Value) (os : List Int) (w : World) (h : IntsAt w v D) (hcp : ∀ a n c, v = .slice a n c → n ≤ c) (ho : BysAt w ov os) (hob : IsBy os) : Calls Try.prog 4 #[.int .i64 key, .int .i64 ver, .int .i64 s, v, ov] w fun e w' => e = .returned (.bool true) ∧ Below w.heap.size w w' := by
  by_cases hL : 200 < D.length
  · exact tf_long key ver s v D ov os w h hcp ho hob hL
  · by_cases hO : 40 < os.length
    · exact tf_lo key ver s v D ov os w h hcp ho hob (by omega) hO
    · by_cases hE : spE key ver s D = 0
      · refine tf_main key ver s v D ov os w h hcp ho hob (by omega) (by omega) hE _ _ _ _ rfl rfl (spL_lenT s D) (sp_of hE) (fun k hk => ?_)
        unfold spL spP
        rw [if_pos rfl, List.getElem?_map, List.getElem?_range hk]
        rfl
      · exact tf_bad key ver s v D ov os w h hcp ho hob (by omega) (by omega) hE
end Go.Proofs.Yteodafhgfcbdpaa
