/- Capabilities: law CapabilityOrder, the walk. -/
import Derived.Test.YtdifgdnndmikaaaKv
namespace Go.Proofs.Ytdifgdnndmikaaa
open Go.RowKit

/-- What comes up where a caveat is appended twice. -/
def Go2 (val : List Value) (xs : List Cv) (c : Cv) (n0 : Nat) (d : Bool) (i : Nat) (v : Value) (w : World) : Prop :=
  (i = 9 → d = false → ∃ g, v = .slice (some ⟨g, 0, none⟩) 2 2 ∧ Cs w g #[.int .i64 c.k, .int .i64 c.v, .int .i64 c.k, .int .i64 c.v]) ∧
  (i = 10 ∨ i = 11 → w.ownsRow n0 26 2 v (xs.length + 2) (ccs (xs ++ [c, c]))) ∧ (i ≠ 9 → i ≠ 10 → i ≠ 11 → v = val.getD i undef)
theorem Go2.step {val : List Value} {xs : List Cv} {c : Cv} {n0 : Nat} {d : Bool} {w w1 : World} (hb : Below w.heap.size w w1) : ∀ i v, Go2 val xs c n0 d i v w → Go2 val xs c n0 d i v w1 := fun i v h =>
  ⟨fun e hd => by
    obtain ⟨g, h1, h2⟩ := h.1 e hd
    exact ⟨g, h1, h2.step hb⟩, fun e => row_step (h.2.1 e) hb, h.2.2⟩
/-- The region's invariant; slot 8 is read by its first operation, and written by its last. -/
def NO (lit : (Nat → Value) → Act) (bv : Value) (G : Bool → Nat → Value → World → Prop) (B : Bool → World → Prop) (bf : Nat → Bool) (ac : Act) (wv : World) : Prop :=
  ∃ vs, ac = lit vs ∧ (bf 11 = false → vs 11 = bv) ∧ (bf 10 = true → bf 0 = true) ∧ (bf 11 = true → bf 10 = true) ∧ B (bf 10) wv ∧ ∀ i, bf i = true → G (bf 10) i (vs i) wv
theorem NO.next {lit : (Nat → Value) → Act} {bv : Value} {G : Bool → Nat → Value → World → Prop} {B : Bool → World → Prop} {bf : Nat → Bool} {wv : World} {vs : Nat → Value} (i : Nat) (hi : i < 10) {x : Value} {w' : World} {ac' : Act} (hac : ac' = lit (upv vs i x))
    (k : (bf 11 = false → vs 11 = bv) ∧ (bf 10 = true → bf 0 = true) ∧ (bf 11 = true → bf 10 = true) ∧ ∀ i, bf i = true → G (bf 10) i (vs i) wv) (hb : B (bf 10) w') (hs : ∀ k v, G (bf 10) k v wv → G (bf 10) k v w') (hx : G (bf 10) i x w') : NO lit bv G B (up bf i) ac' w' := by
  obtain ⟨k1, k2, k3, k4⟩ := k
  refine ⟨upv vs i x, hac, fun h => ?_, fun h => ?_, fun h => ?_, ?_, fun j hu => ?_⟩
  · rw [up_ne _ _ _ (by omega)] at h; rw [upv_ne _ _ _ _ (by omega)]; exact k1 h
  · rw [up_ne _ _ _ (by omega)] at h
    have := k2 h
    unfold up; rw [this]; simp
  · rw [up_ne _ _ _ (by omega)] at h ⊢; exact k3 h
  · rw [up_ne _ _ _ (by omega)]; exact hb
  · rw [up_ne _ _ _ (show 10 ≠ i by omega)]
    by_cases e : j = i
    · subst e; rw [upv_same]; exact hx
    · rw [up_ne _ _ _ e] at hu; rw [upv_ne _ _ _ _ e]; exact hs _ _ (k4 j hu)
theorem NO.app {lit : (Nat → Value) → Act} {bv : Value} {G : Bool → Nat → Value → World → Prop} {B : Bool → World → Prop} {bf : Nat → Bool} {wv : World} {vs : Nat → Value} {x : Value} {w' : World} {ac' : Act} (hac : ac' = lit (upv vs 10 x)) (h11 : bf 11 = false)
    (k1 : bf 11 = false → vs 11 = bv) (ha : bf 0 = true) (hb : B true w') (hs : ∀ k, k ≠ 10 → bf k = true → G true k (vs k) w') (hx : G true 10 x w') : NO lit bv G B (up bf 10) ac' w' := by
  refine ⟨upv vs 10 x, hac, fun h => ?_, fun h => ?_, fun h => ?_, ?_, fun j hu => ?_⟩
  · rw [up_ne _ _ _ (by omega)] at h; rw [upv_ne _ _ _ _ (by omega)]; exact k1 h
  · unfold up; rw [ha]; simp
  · exact up_same _ _
  · rw [up_same]; exact hb
  · rw [up_same]
    by_cases e : j = 10
    · subst e; rw [upv_same]; exact hx
    · rw [up_ne _ _ _ e] at hu
      rw [upv_ne _ _ _ _ e]
      exact hs j e hu
theorem NO.last {lit : (Nat → Value) → Act} {bv : Value} {G : Bool → Nat → Value → World → Prop} {B : Bool → World → Prop} {bf : Nat → Bool} {wv : World} {vs : Nat → Value} {x : Value} {ac' : Act} (hac : ac' = lit (upv vs 11 x)) (h10 : bf 10 = true)
    (k2 : bf 10 = true → bf 0 = true) (hb : B (bf 10) wv) (k4 : ∀ i, bf i = true → G (bf 10) i (vs i) wv) (hx : G (bf 10) 11 x wv) : NO lit bv G B (up bf 11) ac' wv := by
  refine ⟨upv vs 11 x, hac, fun h => ?_, fun h => ?_, fun h => ?_, ?_, fun j hu => ?_⟩
  · rw [up_same] at h; cases h
  · have := k2 h10
    unfold up; rw [this]; simp
  · rw [up_ne _ _ _ (by omega)]; exact h10
  · rw [up_ne _ _ _ (by omega)]; exact hb
  · rw [up_ne _ _ _ (show 10 ≠ 11 by omega)]
    by_cases e : j = 11
    · subst e; rw [upv_same]; exact hx
    · rw [up_ne _ _ _ e] at hu; rw [upv_ne _ _ _ _ e]; exact k4 j hu
theorem keep2b {w w1 w2 : World} {n : Nat} (hb : Below w1.heap.size w1 w2) (h : Below n w w1) (hn : n ≤ w1.heap.size) : Below n w w2 := h.trans (hb.mono hn)
theorem drop_back {l : List Cv} {k : Nat} (h : k < l.length) : dbl (l.drop (k + 1)) ++ [l.getD k zC, l.getD k zC] = dbl (l.drop k) := by
  rw [List.drop_eq_getElem_cons h, dbl_cons]
  simp [h]
set_option maxRecDepth 100000 in
set_option maxHeartbeats 4000000 in
theorem order_len (sl : Value) (l : List Cv) (r v x t u : Int) (w : World) (h : CvsAt w sl l) (hl : 6 < l.length) : Calls Try.prog 7 #[sl, .agg #[.int .i64 r, .int .i64 v, .int .i64 x, .int .i64 t], .int .i64 u] w fun e w' => e = .returned (.bool true) ∧ Below w.heap.size w w' := by
  have H := Lib.hid h
  obtain ⟨a, cap, rfl, -, hm, -⟩ := h
  unfold maxLen at hm
  have hg : decide ((l.length : Int) > 6) = true := by simp; omega
  have hg2 : decide ((6 : Int) < l.length) = true := by simp; omega
  have HB0 := Lib.hid (Below.refl w.heap.size w)
  go_enter Try.func7, Try.ntmps7
  have KK_1 := Lib.hid (Cs.new w (w.heap.size) #[.int .i64 r, .int .i64 v, .int .i64 x, .int .i64 t] 28 (by simp))
  have HB2 : Hid (Below w.heap.size w (w.alloc (.cells #[.int .i64 r, .int .i64 v, .int .i64 x, .int .i64 t] 28))) := HB0.out.alloc HB0.out.size _
  clear HB0
  go_wp2_with fail
  refine (head_any _).mono ?_
  rintro e u1 ⟨rfl, b1⟩
  have KK_3 := Lib.hid (KK_1.out.step b1)
  clear KK_1
  have HB4 := Lib.hid (keep2 b1 HB2.out)
  clear HB2 b1
  go_wp2
  go_ret
  exact ⟨rfl, HB4.out⟩
set_option maxRecDepth 100000 in
set_option maxHeartbeats 4000000 in
theorem order_ok (sl : Value) (l : List Cv) (r v x t u : Int) (w : World) (h : CvsAt w sl l) (hl : l.length ≤ 6) : Calls Try.prog 7 #[sl, .agg #[.int .i64 r, .int .i64 v, .int .i64 x, .int .i64 t], .int .i64 u] w fun e w' => e = .returned (.bool true) ∧ Below w.heap.size w w' := by
  have H := Lib.hid h
  obtain ⟨a, cap, rfl, -, hm, -⟩ := h
  unfold maxLen at hm
  have hg : decide ((l.length : Int) > 6) = false := by simp; omega
  have hg2 : decide ((6 : Int) < l.length) = false := by simp; omega
  obtain ⟨i0, hi, hz0, hz1, hz2⟩ := info_parts info26
  have HB0 := Lib.hid (Below.refl w.heap.size w)
  go_enter Try.func7, Try.ntmps7
  have KK_1 := Lib.hid (Cs.new w (w.heap.size) #[.int .i64 r, .int .i64 v, .int .i64 x, .int .i64 t] 28 (by simp))
  have HB2 : Hid (Below w.heap.size w (w.alloc (.cells #[.int .i64 r, .int .i64 v, .int .i64 x, .int .i64 t] 28))) := HB0.out.alloc HB0.out.size _
  clear HB0
  go_wp2_with fail
  refine (head_any _).mono ?_
  rintro e u1 ⟨rfl, b1⟩
  have KK_3 := Lib.hid (KK_1.out.step b1)
  clear KK_1
  have HB4 := Lib.hid (keep2 b1 HB2.out)
  clear HB2 b1
  go_wp2_with fail
  go_loopw [8, 9] (fun bv i wr => ∃ k : Nat, k ≤ l.length ∧ i = .int .i64 ((k : Int) - 1) ∧ Hid (wr.ownsRow u1.heap.size 26 2 bv (dbl (l.drop k)).length (ccs (dbl (l.drop k)))) ∧ Hid (Below u1.heap.size u1 wr)) (fun _ i _ => (intOf i + 1).toNat)
  case atStart => exact ⟨l.length, Nat.le_refl _, rfl, by rw [List.drop_length]; exact World.ownsRow_nil _ _ _ _, Below.refl _ _⟩
  case round =>
    obtain ⟨k, hk, rfl, HR, HW⟩ := hrel
    obtain ⟨ba, bc, hbv⟩ := row_slice HR.out
    subst hbv
    rcases k with _ | k
    · clear hk
      have HBk := Lib.hid (HB4.out.trans (HW.out.mono HB4.out.size))
      have KKk := Lib.hid (KK_3.out.step HW.out)
      have HQ : Hid (CvsAt wr (.slice ba (dbl (l.drop 0)).length bc) (dbl l)) := Lib.hid (by
        have := HR.out
        rw [List.drop_zero] at this ⊢
        exact cvs_of_row rfl (by rw [dbl_len]; unfold maxLen; omega) this)
      have HD := pm_dbl (r := r) (v := v) (x := x) (t := t) (u := u) hl
      replace HD := Lib.hid HD
      obtain ⟨qn, hqn⟩ : ∃ n, (dbl (l.drop 0)).length = n := ⟨_, rfl⟩
      rw [hqn] at HQ HR ⊢
      clear hqn
      have xK0 : wr.cell? ⟨w.heap.size, 0, none⟩ = some (.int .i64 r) := KKk.out.c 0 rfl
      have xK1 : wr.cell? ⟨w.heap.size, 1, none⟩ = some (.int .i64 v) := KKk.out.c 1 rfl
      have xK2 : wr.cell? ⟨w.heap.size, 2, none⟩ = some (.int .i64 x) := KKk.out.c 2 rfl
      have xK3 : wr.cell? ⟨w.heap.size, 3, none⟩ = some (.int .i64 t) := KKk.out.c 3 rfl
      have zK : w.heap.size < wr.heap.size := KKk.out.2.2
      have z2K : w.heap.size < wr.heap.size + 1 := by omega
      go_wp2_with fail
      refine (permits_any 0 0 r v x t u _ l _ (H.out.step HBk.out)).mono ?_
      rintro e u31 ⟨rfl, b31⟩
      replace HQ := Lib.hid (HQ.out.step b31)
      clear xK0 xK1 xK2 xK3 zK z2K
      have KK_701 := Lib.hid (KKk.out.step b31)
      clear KKk
      have HB702 := Lib.hid (keep2 b31 HBk.out)
      clear HBk b31
      obtain ⟨ea, hea⟩ : ∃ ea, pmE 0 0 l r v x t u = ea := ⟨_, rfl⟩
      rw [hea]
      have xK0 : u31.cell? ⟨w.heap.size, 0, none⟩ = some (.int .i64 r) := KK_701.out.c 0 rfl
      have xK1 : u31.cell? ⟨w.heap.size, 1, none⟩ = some (.int .i64 v) := KK_701.out.c 1 rfl
      have xK2 : u31.cell? ⟨w.heap.size, 2, none⟩ = some (.int .i64 x) := KK_701.out.c 2 rfl
      have xK3 : u31.cell? ⟨w.heap.size, 3, none⟩ = some (.int .i64 t) := KK_701.out.c 3 rfl
      have zK : w.heap.size < u31.heap.size := KK_701.out.2.2
      have z2K : w.heap.size < u31.heap.size + 1 := by omega
      go_wp2_with fail
      refine (permits_any 0 0 r v x t u _ (dbl l) _ HQ.out).mono ?_
      rintro e u40 ⟨rfl, b40⟩
      clear xK0 xK1 xK2 xK3 zK z2K
      have KK_703 := Lib.hid (KK_701.out.step b40)
      clear KK_701
      have HB704 := Lib.hid (keep2 b40 HB702.out)
      clear HB702 b40
      obtain ⟨eb, heb⟩ : ∃ eb, pmE 0 0 (dbl l) r v x t u = eb := ⟨_, rfl⟩
      rw [heb]
      have h0 : (eb = 0 ↔ ea = 0) := by rw [← hea, ← heb]; exact HD.out.2
      have h1 : (eb = 1 ↔ ea = 1) := by rw [← hea, ← heb, pm_one, pm_one, HD.out.1]
      clear hea heb
      by_cases k0 : ea = 0
      · have k1 := h0.2 k0
        subst k0 k1
        go_wp2
        go_ret
        exact ⟨rfl, HB704.out⟩
      · have k1 : eb ≠ 0 := fun h => k0 (h0.1 h)
        by_cases j0 : ea = 1
        · have j1 := h1.2 j0
          subst j0 j1
          go_wp2
          go_ret
          exact ⟨rfl, HB704.out⟩
        · have j1 : eb ≠ 1 := fun h => j0 (h1.1 h)
          have ea1 : (ea != 0) = true := by simpa using k0
          have ea2 : (ea == 0) = false := by simpa using k0
          have ea3 : decide (ea = 0) = false := by simpa using k0
          have eb1 : (eb != 0) = true := by simpa using k1
          have eb2 : (eb == 0) = false := by simpa using k1
          have eb3 : decide (eb = 0) = false := by simpa using k1
          have ea4 : (ea != 1) = true := by simpa using j0
          have ea5 : (ea == 1) = false := by simpa using j0
          have ea6 : decide (ea = 1) = false := by simpa using j0
          have eb4 : (eb != 1) = true := by simpa using j1
          have eb5 : (eb == 1) = false := by simpa using j1
          have eb6 : decide (eb = 1) = false := by simpa using j1
          go_wp2
          go_ret
          exact ⟨rfl, HB704.out⟩
    · obtain ⟨a2, cap2, hva, -, -, hcs⟩ := H.out
      have HBW := Lib.hid (fun (wv : World) (h : Below u1.heap.size u1 wv) => HB4.out.trans (h.mono HB4.out.size))
      obtain ⟨rfl, rfl⟩ : a = a2 ∧ cap = cap2 := by simpa using hva
      obtain ⟨b, off, rfl, hcs2⟩ := hcs (by intro h; rw [h] at hk; simp at hk)
      have hlt : k < l.length := hk
      obtain ⟨x0, x1⟩ := hcs2 k _ (cv_get hlt)
      clear hcs hcs2 hva
      have X0 := Lib.hid x0
      have X1 := Lib.hid x1
      clear x0 x1
      have HD := Lib.hid (drop_back hlt)
      have hdl : (dbl (l.drop (k + 1))).length ≤ 12 := by rw [dbl_len]; simp; omega
      have hk1 : (((k + 1 : Nat) : Int) - 1) = k := by omega
      rw [hk1]
      obtain ⟨xs, hxs⟩ : ∃ xs, dbl (l.drop (k + 1)) = xs := ⟨_, rfl⟩
      rw [hxs] at HR HD hdl ⊢
      clear hxs
      have hdl2 := Lib.hid hdl
      obtain ⟨xn, hxn⟩ : ∃ n, xs.length = n := ⟨_, rfl⟩
      rw [hxn] at HR hdl ⊢
      replace hxn := Lib.hid hxn
      generalize l.getD k zC = c at *
      obtain ⟨ck, cz⟩ := c
      simp only at X0 X1
      go_wp2_with fail
      obtain ⟨lit, hlit⟩ : ∃ lit : (Nat → Value) → Act, lit = fun vs => { tmps := #[Value.slice (some { block := b, off := off }) l.length cap, Value.agg #[Value.int IntKind.i64 r, Value.int IntKind.i64 v, Value.int IntKind.i64 x, Value.int IntKind.i64 t], Value.int IntKind.i64 u, undef, Value.pointer (some { block := w.heap.size, off := 0 }), undef, Value.bool false, Value.bool true, vs 11, Value.int IntKind.i64 (k : Int), undef, undef, Value.bool true, Value.slice (some { block := b, off := off }) l.length cap, Value.int IntKind.i64 (l.length : Int), Value.bool false, undef, Value.slice (some { block := b, off := off }) l.length cap, Value.int IntKind.i64 (l.length : Int), Value.int IntKind.i64 ((l.length : Int) - 1), Value.int IntKind.i64 (k : Int), Value.bool true, u22, u23, vs 0, vs 1, vs 2, vs 3, vs 4, vs 5, vs 6, vs 7, vs 8, vs 9, vs 10, undef, undef, undef, undef, undef, undef, undef, undef, undef, undef, undef, undef, undef, undef, undef, undef, undef, undef, undef, undef, undef, undef, undef, undef, undef], defers := [] } := ⟨_, rfl⟩
      have HLIT := Lib.hid hlit
      clear hlit
      obtain ⟨val, hval⟩ : ∃ val : List Value, val = [.slice ba xn bc, .slice (some ⟨b, off, none⟩) l.length cap, .int .i64 k, .pointer (some ⟨b, off + k * 2, none⟩), .agg #[.int .i64 ck, .int .i64 cz], .slice (some ⟨b, off, none⟩) l.length cap, .int .i64 k, .pointer (some ⟨b, off + k * 2, none⟩), .agg #[.int .i64 ck, .int .i64 cz]] := ⟨_, rfl⟩
      have E0 := Lib.hid (show val.getD 0 undef = .slice ba xn bc by rw [hval]; rfl)
      have E1 := Lib.hid (show val.getD 1 undef = .slice (some ⟨b, off, none⟩) l.length cap by rw [hval]; rfl)
      have E2 := Lib.hid (show val.getD 2 undef = .int .i64 k by rw [hval]; rfl)
      have E3 := Lib.hid (show val.getD 3 undef = .pointer (some ⟨b, off + k * 2, none⟩) by rw [hval]; rfl)
      have E4 := Lib.hid (show val.getD 4 undef = .agg #[.int .i64 ck, .int .i64 cz] by rw [hval]; rfl)
      have E5 := Lib.hid (show val.getD 5 undef = .slice (some ⟨b, off, none⟩) l.length cap by rw [hval]; rfl)
      have E6 := Lib.hid (show val.getD 6 undef = .int .i64 k by rw [hval]; rfl)
      have E7 := Lib.hid (show val.getD 7 undef = .pointer (some ⟨b, off + k * 2, none⟩) by rw [hval]; rfl)
      have E8 := Lib.hid (show val.getD 8 undef = .agg #[.int .i64 ck, .int .i64 cz] by rw [hval]; rfl)
      clear hval
      have HW2 := Lib.hid (fun (wv : World) (h : Below wr.heap.size wr wv) => HW.out.trans (h.mono HW.out.size))
      refine region_inv (NO lit (.slice ba xn bc) (Go2 val xs ⟨ck, cz⟩ u1.heap.size) fun d wv => (d = false → Below wr.heap.size wr wv) ∧ Below u1.heap.size u1 wv) (by kernel_rfl) (by decide +kernel) ?_ ?_ ?_
      · exact ⟨fun i => ([u24, u25, u26, u27, u28, u29, u30, u31, u32, u33, u34, Value.slice ba xn bc] : List Value).getD i undef, (by rw [HLIT.out]; rfl), fun _ => rfl, fun h => (by cases h), fun h => (by cases h), ⟨fun _ => below_drew _ _, HW2.out _ (below_drew _ _)⟩, fun i h => by cases h⟩
      · refine ⟨?_, ?_, ?_, ?_, ?_, ?_, ?_, ?_, ?_, ?_, ?_, ?_, trivial⟩
        · intro bf ac wv hfb haf hJ K' hK
          obtain ⟨vs, rfl, j1, j2, j3, hM, j4⟩ := hJ
          replace hK := Lib.hid hK
          have h11 : bf 11 = false := Bool.eq_false_iff.2 fun h => absurd ((j2 (j3 h)).symm.trans hfb) (by simp)
          have e11 : vs 11 = _ := j1 h11
          replace j4 := Lib.hid (And.intro j1 (And.intro j2 (And.intro j3 j4)))
          replace hM := Lib.hid hM
          clear j1 j2 j3 haf hfb
          rw [HLIT.out]
          go_simp
          exact hK.out _ _ (NO.next (wv := wv) (vs := vs) 0 (by omega) (x := .slice ba xn bc) (by rw [HLIT.out]; simp only [upv, e11, Nat.reduceBEq, cond_true, cond_false]) j4.out hM.out (fun _ _ h => h) ⟨fun h => by omega, fun h => by omega, fun _ _ _ => E0.out.symm⟩)
        · intro bf ac wv hfb haf hJ K' hK
          obtain ⟨vs, rfl, j1, j2, j3, hM, j4⟩ := hJ
          replace hK := Lib.hid hK
          replace j4 := Lib.hid (And.intro j1 (And.intro j2 (And.intro j3 j4)))
          replace hM := Lib.hid hM
          clear j1 j2 j3 haf hfb
          rw [HLIT.out]
          go_simp
          exact hK.out _ _ (NO.next (wv := wv) (vs := vs) 1 (by omega) (x := .slice (some ⟨b, off, none⟩) l.length cap) (by rw [HLIT.out]; rfl) j4.out hM.out (fun _ _ h => h) ⟨fun h => by omega, fun h => by omega, fun _ _ _ => E1.out.symm⟩)
        · intro bf ac wv hfb haf hJ K' hK
          obtain ⟨vs, rfl, j1, j2, j3, hM, j4⟩ := hJ
          replace hK := Lib.hid hK
          replace j4 := Lib.hid (And.intro j1 (And.intro j2 (And.intro j3 j4)))
          replace hM := Lib.hid hM
          clear j1 j2 j3 haf hfb
          rw [HLIT.out]
          go_simp
          exact hK.out _ _ (NO.next (wv := wv) (vs := vs) 2 (by omega) (x := .int .i64 k) (by rw [HLIT.out]; rfl) j4.out hM.out (fun _ _ h => h) ⟨fun h => by omega, fun h => by omega, fun _ _ _ => E2.out.symm⟩)
        · intro bf ac wv hfb haf hJ K' hK
          obtain ⟨vs, rfl, j1, j2, j3, hM, j4⟩ := hJ
          replace hK := Lib.hid hK
          simp [Region.binds] at haf
          have e1 : vs 1 = _ := ((j4 1 (by simp [haf])).2.2 (by decide) (by decide) (by decide)).trans E1.out
          have e2 : vs 2 = _ := ((j4 2 (by simp [haf])).2.2 (by decide) (by decide) (by decide)).trans E2.out
          replace j4 := Lib.hid (And.intro j1 (And.intro j2 (And.intro j3 j4)))
          replace hM := Lib.hid hM
          clear j1 j2 j3 haf hfb
          rw [HLIT.out]
          go_simp
          exact hK.out _ _ (NO.next (wv := wv) (vs := vs) 3 (by omega) (x := .pointer (some ⟨b, off + k * 2, none⟩)) (by rw [HLIT.out]; simp only [upv, e1, e2, Nat.reduceBEq, cond_true, cond_false]) j4.out hM.out (fun _ _ h => h) ⟨fun h => by omega, fun h => by omega, fun _ _ _ => E3.out.symm⟩)
        · intro bf ac wv hfb haf hJ K' hK
          obtain ⟨vs, rfl, j1, j2, j3, hM, j4⟩ := hJ
          replace hK := Lib.hid hK
          simp [Region.binds] at haf
          have e3 : vs 3 = _ := ((j4 3 (by simp [haf])).2.2 (by decide) (by decide) (by decide)).trans E3.out
          replace j4 := Lib.hid (And.intro j1 (And.intro j2 (And.intro j3 j4)))
          replace hM := Lib.hid hM
          clear j1 j2 j3 haf hfb
          have xg0 := keep1 (HBW.out _ hM.out.2) X0.out
          have xg1 := keep1 (HBW.out _ hM.out.2) X1.out
          have xgz := World.block_lt_of_cell? _ _ xg0
          have xgz : b < wv.heap.size := xgz
          rw [HLIT.out]
          go_simp
          exact hK.out _ _ (NO.next (wv := wv) (vs := vs) 4 (by omega) (x := .agg #[.int .i64 ck, .int .i64 cz]) (by rw [HLIT.out]; simp only [upv, e3, Nat.reduceBEq, cond_true, cond_false]) j4.out hM.out (fun _ _ h => h) ⟨fun h => by omega, fun h => by omega, fun _ _ _ => E4.out.symm⟩)
        · intro bf ac wv hfb haf hJ K' hK
          obtain ⟨vs, rfl, j1, j2, j3, hM, j4⟩ := hJ
          replace hK := Lib.hid hK
          replace j4 := Lib.hid (And.intro j1 (And.intro j2 (And.intro j3 j4)))
          replace hM := Lib.hid hM
          clear j1 j2 j3 haf hfb
          rw [HLIT.out]
          go_simp
          exact hK.out _ _ (NO.next (wv := wv) (vs := vs) 5 (by omega) (x := .slice (some ⟨b, off, none⟩) l.length cap) (by rw [HLIT.out]; rfl) j4.out hM.out (fun _ _ h => h) ⟨fun h => by omega, fun h => by omega, fun _ _ _ => E5.out.symm⟩)
        · intro bf ac wv hfb haf hJ K' hK
          obtain ⟨vs, rfl, j1, j2, j3, hM, j4⟩ := hJ
          replace hK := Lib.hid hK
          replace j4 := Lib.hid (And.intro j1 (And.intro j2 (And.intro j3 j4)))
          replace hM := Lib.hid hM
          clear j1 j2 j3 haf hfb
          rw [HLIT.out]
          go_simp
          exact hK.out _ _ (NO.next (wv := wv) (vs := vs) 6 (by omega) (x := .int .i64 k) (by rw [HLIT.out]; rfl) j4.out hM.out (fun _ _ h => h) ⟨fun h => by omega, fun h => by omega, fun _ _ _ => E6.out.symm⟩)
        · intro bf ac wv hfb haf hJ K' hK
          obtain ⟨vs, rfl, j1, j2, j3, hM, j4⟩ := hJ
          replace hK := Lib.hid hK
          simp [Region.binds] at haf
          have e5 : vs 5 = _ := ((j4 5 (by simp [haf])).2.2 (by decide) (by decide) (by decide)).trans E5.out
          have e6 : vs 6 = _ := ((j4 6 (by simp [haf])).2.2 (by decide) (by decide) (by decide)).trans E6.out
          replace j4 := Lib.hid (And.intro j1 (And.intro j2 (And.intro j3 j4)))
          replace hM := Lib.hid hM
          clear j1 j2 j3 haf hfb
          rw [HLIT.out]
          go_simp
          exact hK.out _ _ (NO.next (wv := wv) (vs := vs) 7 (by omega) (x := .pointer (some ⟨b, off + k * 2, none⟩)) (by rw [HLIT.out]; simp only [upv, e5, e6, Nat.reduceBEq, cond_true, cond_false]) j4.out hM.out (fun _ _ h => h) ⟨fun h => by omega, fun h => by omega, fun _ _ _ => E7.out.symm⟩)
        · intro bf ac wv hfb haf hJ K' hK
          obtain ⟨vs, rfl, j1, j2, j3, hM, j4⟩ := hJ
          replace hK := Lib.hid hK
          simp [Region.binds] at haf
          have e7 : vs 7 = _ := ((j4 7 (by simp [haf])).2.2 (by decide) (by decide) (by decide)).trans E7.out
          replace j4 := Lib.hid (And.intro j1 (And.intro j2 (And.intro j3 j4)))
          replace hM := Lib.hid hM
          clear j1 j2 j3 haf hfb
          have xg0 := keep1 (HBW.out _ hM.out.2) X0.out
          have xg1 := keep1 (HBW.out _ hM.out.2) X1.out
          have xgz := World.block_lt_of_cell? _ _ xg0
          have xgz : b < wv.heap.size := xgz
          rw [HLIT.out]
          go_simp
          exact hK.out _ _ (NO.next (wv := wv) (vs := vs) 8 (by omega) (x := .agg #[.int .i64 ck, .int .i64 cz]) (by rw [HLIT.out]; simp only [upv, e7, Nat.reduceBEq, cond_true, cond_false]) j4.out hM.out (fun _ _ h => h) ⟨fun h => by omega, fun h => by omega, fun _ _ _ => E8.out.symm⟩)
        · intro bf ac wv hfb haf hJ K' hK
          obtain ⟨vs, rfl, j1, j2, j3, hM, j4⟩ := hJ
          replace hK := Lib.hid hK
          simp [Region.binds] at haf
          have e4 : vs 4 = _ := ((j4 4 (by simp [haf])).2.2 (by decide) (by decide) (by decide)).trans E4.out
          have e8 : vs 8 = _ := ((j4 8 (by simp [haf])).2.2 (by decide) (by decide) (by decide)).trans E8.out
          replace j4 := Lib.hid (And.intro j1 (And.intro j2 (And.intro j3 j4)))
          replace hM := Lib.hid hM
          clear j1 j2 j3 haf hfb
          rw [HLIT.out]
          go_simp
          exact hK.out _ _ (NO.next (wv := wv) (vs := vs) 9 (by omega) (x := .slice (some ⟨wv.heap.size, 0, none⟩) 2 2) (by rw [HLIT.out]; simp only [upv, e4, e8, Nat.reduceBEq, cond_true, cond_false]) j4.out ⟨fun h => keep2 (al _ _) (hM.out.1 h), keep2b (al _ _) hM.out.2 hM.out.2.size⟩ (Go2.step (al _ _)) ⟨fun _ _ => ⟨_, rfl, Cs.new wv wv.heap.size #[.int .i64 ck, .int .i64 cz, .int .i64 ck, .int .i64 cz] 26 rfl⟩, fun h => by omega, fun h => absurd rfl h⟩)
        · intro bf ac wv hfb haf hJ K' hK
          obtain ⟨vs, rfl, j1, j2, j3, hM, j4⟩ := hJ
          replace hK := Lib.hid hK
          simp [Region.binds] at haf
          have e0 : vs 0 = _ := ((j4 0 (by simp [haf])).2.2 (by decide) (by decide) (by decide)).trans E0.out
          rw [hfb] at j4
          obtain ⟨g, e9, hg⟩ := (j4 9 (by simp [haf])).1 rfl rfl
          have h11 : bf 11 = false := Bool.eq_false_iff.2 fun h => absurd ((j3 h).symm.trans hfb) (by simp)
          have HA := Lib.hid (show bf 0 = true from by simp [haf])
          rw [hfb] at hM
          have hM1 := Lib.hid (hM.1 rfl)
          have hM2 := Lib.hid hM.2
          clear hM haf
          have hR0 := row_step HR.out hM1.out
          have nx : ∀ j u, ([.int .i64 ck, .int .i64 cz, .int .i64 ck, .int .i64 cz] : List Value)[j]? = some u → wv.cell? ((⟨g, 0, none⟩ : Addr).add j) = some u := fun j u hu => by
            rw [Go.WideShapes.add_plain, Nat.zero_add]
            have hj : j < 4 := by simpa using (List.getElem?_eq_some_iff.1 hu).1
            exact hg.c j (by simpa using hu)
          rw [HLIT.out]
          refine step_append_lies _ rfl _ _ 22 rfl u1.heap.size 26 i0 _ 2 16 Try.underlying22 hi hz0 hz1 hz2 rfl (by decide) _ _ _ e0 hR0 ⟨g, 0, none⟩ 2 2 [.int .i64 ck, .int .i64 cz, .int .i64 ck, .int .i64 cz] e9 rfl nx (by simp [Value.oneCell']) (by omega) (by unfold maxLen; omega) (by omega) hM2.out.size _ rfl ?_
          intro g2 cap2 w' hown hgrow _ _
          exact hK.out _ _ (NO.app (wv := wv) (vs := vs) (x := .slice (some ⟨g2, 0, none⟩) (xn + 2) cap2) (by rw [HLIT.out]; rfl) h11 j1 HA.out ⟨fun h => (by cases h), hM2.out.grown hgrow hM2.out.size (fun k e => row_own hR0 k e)⟩ (fun j hj hb => ⟨fun _ h => (by cases h), fun h => h.elim (fun h => absurd h hj) (fun h => absurd (h11.symm.trans (h ▸ hb)) (by simp)), (j4 j hb).2.2⟩) ⟨fun h => (by omega), fun _ => (by rw [hxn.out, ccs_app]; exact hown), fun _ h => absurd rfl h⟩)
        · intro bf ac wv hfb haf hJ K' hK
          obtain ⟨vs, rfl, j1, j2, j3, hM, j4⟩ := hJ
          replace hK := Lib.hid hK
          simp [Region.binds] at haf
          have e10 := (j4 10 (by simp [haf])).2.1 (.inl rfl)
          replace hM := Lib.hid hM
          replace j4 := Lib.hid j4
          have h10 : bf 10 = true := by simp [haf]
          clear haf hfb
          have R10 := Lib.hid e10
          obtain ⟨a7, c7, hx7⟩ := row_slice e10
          rw [hx7] at R10
          clear e10
          rw [HLIT.out]
          go_simp
          exact hK.out _ _ (NO.last (vs := vs) (x := .slice a7 (xs.length + 2) c7) (by rw [HLIT.out]; simp only [upv, hx7, Nat.reduceBEq, cond_true, cond_false]) h10 j2 hM.out j4.out ⟨fun h => (by omega), fun _ => R10.out, fun _ _ h => absurd rfl h⟩)
      · intro bf ac wv hall hJ
        obtain ⟨vs, rfl, -, -, -, hM, j4⟩ := hJ
        have e11 := (j4 11 (hall 11 (by decide))).2.1 (.inr rfl)
        have HM := Lib.hid hM.2
        clear hM j4 hall
        obtain ⟨a7, c7, hx7⟩ := row_slice e11
        rw [hx7] at e11
        rw [show xs ++ [⟨ck, cz⟩, ⟨ck, cz⟩] = _ from HD.out] at e11
        have HR7 := Lib.hid e11
        clear e11
        rw [HLIT.out]
        dsimp only
        rw [hx7]
        clear hx7
        go_wp2
        go_roundw
        case rel =>
          refine ⟨k, by omega, by first | rfl | go_num, Lib.hid ?_, HM⟩
          have e5 : xs.length + 2 = (dbl (l.drop k)).length := by rw [← HD.out]; simp
          rw [← e5]
          exact HR7.out
        case measure => simp [intOf] <;> omega
theorem order_any (sl : Value) (l : List Cv) (r v x t u : Int) (w : World) (h : CvsAt w sl l) : Calls Try.prog 7 #[sl, .agg #[.int .i64 r, .int .i64 v, .int .i64 x, .int .i64 t], .int .i64 u] w fun e w' => e = .returned (.bool true) ∧ Below w.heap.size w w' := by
  by_cases hl : l.length ≤ 6
  · exact order_ok sl l r v x t u w h hl
  · exact order_len sl l r v x t u w h (by omega)
end Go.Proofs.Ytdifgdnndmikaaa
