/- Capabilities: law CapabilityForged, the walk. -/
import Derived.Test.YtdifgdnndmikaaaNf
namespace Go.Proofs.Ytdifgdnndmikaaa
open Go.RowKit

theorem lsL_len (key id : Int) (l : List Cv) (n : Nat) : (lsL key id l n).length = n := by unfold lsL; simp
theorem lsL_getD (key id : Int) (l : List Cv) (n k : Nat) (h : k < n) : (lsL key id l n).getD k [] = lsK key id l k := by unfold lsL; simp [h]
/-- Two chains that end in the same tag are the same, or two lists of them have the same digest. -/
theorem forged_at {k1 k2 i1 i2 : Int} {l m : List Cv} : ∀ (a b : Nat), tk (tg0 k1 i1) l a = tk (tg0 k2 i2) m b →
    (∃ i j, i ≤ a ∧ j ≤ b ∧ lsK k1 i1 l i ≠ lsK k2 i2 m j ∧ Dg (lsK k1 i1 l i) = Dg (lsK k2 i2 m j)) ∨ (k1 = k2 ∧ i1 = i2 ∧ a = b ∧ ∀ j, j < a → l.getD j zC = m.getD j zC) := by
  intro a
  induction a with
  | zero =>
    intro b h
    by_cases e : lsK k1 i1 l 0 = lsK k2 i2 m b
    · cases b with
      | zero =>
        simp only [lsK, List.cons.injEq, and_true, true_and] at e
        exact .inr ⟨e.1, e.2, rfl, fun j h => absurd h (by omega)⟩
      | succ b => simp [lsK] at e
    · exact .inl ⟨0, b, Nat.le_refl _, Nat.le_refl _, e, by rw [lsK_dg, lsK_dg]; exact h⟩
  | succ a ih =>
    intro b h
    by_cases e : lsK k1 i1 l (a + 1) = lsK k2 i2 m b
    · cases b with
      | zero => simp [lsK] at e
      | succ b =>
        simp only [lsK, List.cons.injEq, and_true, true_and] at e
        obtain ⟨e1, e2, e3⟩ := e
        rcases ih b e1 with ⟨i, j, h1, h2, h3, h4⟩ | ⟨q1, q2, q3, q4⟩
        · exact .inl ⟨i, j, by omega, by omega, h3, h4⟩
        · refine .inr ⟨q1, q2, by omega, fun j hj => ?_⟩
          by_cases e : j = a
          · subst e
            rw [← q3] at e2 e3
            exact cv_ext e2 e3
          · exact q4 j (by omega)
    · exact .inl ⟨a + 1, b, Nat.le_refl _, Nat.le_refl _, e, by rw [lsK_dg, lsK_dg]; exact h⟩
theorem getD_left {L M : List (List Int)} {i : Nat} (h : i < L.length) : (L ++ M).getD i [] = L.getD i [] := by
  simp [List.getD, List.getElem?_append_left h]
theorem getD_right {L M : List (List Int)} (i : Nat) : (L ++ M).getD (L.length + i) [] = M.getD i [] := by
  simp [List.getD, List.getElem?_append_right]
theorem forged {k1 k2 i1 i2 tg : Int} {l m : List Cv} (h1 : gnB k1 i1 tg l = true) (h2 : gnB k2 i2 tg m = true) (hn : ¬ (k1 = k2 ∧ i1 = i2 ∧ l = m)) : Cld (lsL k1 i1 l (l.length + 1) ++ lsL k2 i2 m (m.length + 1)) := by
  have e1 : tk (tg0 k1 i1) l l.length = tg := by unfold gnB at h1; simp only [Bool.and_eq_true, decide_eq_true_iff] at h1; exact h1.2.2
  have e2 : tk (tg0 k2 i2) m m.length = tg := by unfold gnB at h2; simp only [Bool.and_eq_true, decide_eq_true_iff] at h2; exact h2.2.2
  rcases forged_at l.length m.length (e1.trans e2.symm) with ⟨i, j, hi, hj, q1, q2⟩ | ⟨q1, q2, q3, q4⟩
  · have g1 : (lsL k1 i1 l (l.length + 1) ++ lsL k2 i2 m (m.length + 1)).getD i [] = lsK k1 i1 l i := by
      rw [getD_left (by rw [lsL_len]; omega), lsL_getD _ _ _ _ _ (by omega)]
    have g2 : (lsL k1 i1 l (l.length + 1) ++ lsL k2 i2 m (m.length + 1)).getD ((l.length + 1) + j) [] = lsK k2 i2 m j := by
      have := getD_right (L := lsL k1 i1 l (l.length + 1)) (M := lsL k2 i2 m (m.length + 1)) j
      rw [lsL_len] at this
      rw [this, lsL_getD _ _ _ _ _ (by omega)]
    refine ⟨i, (l.length + 1) + j, ?_, ?_, ?_⟩
    · simp [lsL_len]; omega
    · simp [lsL_len]; omega
    · unfold cdB; rw [g1, g2]; exact ⟨q1, q2⟩
  · exact absurd ⟨q1, q2, cvs_ext q3 q4⟩ hn
/-- A guarded append whose equation is known, in a plain region. -/
theorem wpList_app_g {ops : Array Oper} {rest : List Oper} {o : Oper} {a : Act} {w w' : World} {Q : Exit → Act → World → Prop} (s x : Operand) (t : TypeId)
    (ho : o.op = .call { callee := .builtin .append, args := #[s, x], argTypes := #[t, t] }) (hw : Region.wanted o (yielded ops a.tmps) = true) (v sl v' : Value) (hs : a.eval s = v) (hx : a.eval x = sl)
    (hr : (Builtin.append_ #[t, t] o.type #[v, sl]).run Try.prog w = .ok v' w') (h : wpList Try.prog ops Q rest (a.put o.dst v') w') : wpList Try.prog ops Q (o :: rest) a w := by
  refine wpList_step fun K hK => ?_
  rw [if_pos hw]
  unfold Oper.wp execOp
  simp only [ho, resolve, invoke, builtin, Sem.run_bind, Sem.run_pure, Result.andThen_ok, List.map_toArray, List.map_cons, List.map_nil, hs, hx, hr]
  exact hK _ _ h
theorem row_news {w : World} {base e n g c : Nat} {xs : List Value} (h : w.ownsRow base e 1 (.slice (some ⟨g, 0, none⟩) n c) n xs) : ∀ j u, xs[j]? = some u → w.cell? ((⟨g, 0, none⟩ : Addr).add j) = some u := fun j u hu => by
  have hj := (List.getElem?_eq_some_iff.1 hu).1
  have hl := h.1
  rw [Go.WideShapes.add_plain, Nat.zero_add, h.cellAt j (by omega)]
  exact hu
theorem ELs.free {w : World} {ex : Option Nat} {zs : List Value} {L : List (List Int)} (h : ELs w ex zs L) : ELs w none zs L :=
  ⟨h.1, fun i sv l h1 h2 => by
    obtain ⟨he, -⟩ := h.2 i sv l h1 h2
    obtain ⟨g, h3, -⟩ := he.lt
    exact ⟨he, by rw [h3]; simp⟩⟩
theorem ELs.both {w : World} {zs ys : List Value} {L M : List (List Int)} (h : ELs w none zs L) (k : ELs w none ys M) : ELs w none (zs ++ ys) (L ++ M) := by
  refine ⟨by simp [h.1, k.1], fun i sv l h1 h2 => ?_⟩
  by_cases hi : i < L.length
  · rw [List.getElem?_append_left (by rw [h.1]; exact hi)] at h1
    rw [List.getElem?_append_left hi] at h2
    exact h.2 i sv l h1 h2
  · rw [List.getElem?_append_right (by rw [h.1]; omega), h.1] at h1
    rw [List.getElem?_append_right (by omega)] at h2
    exact k.2 _ sv l h1 h2
/-- Two lists of lists, appended to a new one. -/
theorem two_lists {w : World} {b1 b2 n m : Nat} {z y : Value} {zs ys : List Value} {L M : List (List Int)} {ex1 ex2 : Option Nat} (hr1 : w.ownsRow b1 37 1 z n zs) (hx1 : ELs w ex1 zs L) (hr2 : w.ownsRow b2 37 1 y m ys) (hx2 : ELs w ex2 ys M) (hn : 0 < n) (hm : 0 < m) (hnm : n + m ≤ 100) :
    ∃ v5 w5 v6 w6, (Builtin.append_ #[45, 45] 45 #[.slice (some ⟨w.heap.size, 0, none⟩) 0 0, z]).run Try.prog (w.alloc (.cells #[] 37)) = .ok v5 w5 ∧ (Builtin.append_ #[45, 45] 45 #[v5, y]).run Try.prog w5 = .ok v6 w6 ∧
      w6.ownsRow w.heap.size 37 1 v6 (n + m) (zs ++ ys) ∧ ELs w6 none (zs ++ ys) (L ++ M) ∧ Below w.heap.size w w6 := by
  obtain ⟨j0, hj, hy0, hy1, hy2⟩ := info_parts info37
  obtain ⟨g1, c1, rfl, -, -⟩ := hr1.form hn
  obtain ⟨g2, c2, rfl, -, -⟩ := hr2.form hm
  have a1 := al w (.cells #[] 37)
  have e0 : (w.alloc (.cells #[] 37)).ownsRow w.heap.size 37 1 (.slice (some ⟨w.heap.size, 0, none⟩) 0 0) 0 [] := ⟨rfl, .inr ⟨w.heap.size, 0, _, rfl, Nat.le_refl _, heap_alloc_new _ _, by omega, by unfold maxLen; omega, rfl, rfl⟩⟩
  obtain ⟨v5, w5, q1, q2, q3, -, -⟩ := run_append_own_at (P := Try.prog) (w.alloc (.cells #[] 37)) w.heap.size 45 45 37 j0 _ 1 24 Try.underlying45 hj hy0 hy1 hy2 rfl (by decide) _ 0 [] e0 ⟨g1, 0, none⟩ n c1 zs (by simpa using hr1.1) (row_news (row_step hr1 a1)) hx1.one (by unfold maxLen; omega) (by omega) a1.size
  rw [Nat.zero_add, List.nil_append] at q2
  have b5 : Below w.heap.size w w5 := a1.grown q3 a1.size (fun k e => by cases e; exact Nat.le_refl _)
  obtain ⟨v6, w6, q4, q5, q6, -, -⟩ := run_append_own_at (P := Try.prog) w5 w.heap.size 45 45 37 j0 _ 1 24 Try.underlying45 hj hy0 hy1 hy2 rfl (by decide) v5 n zs q2 ⟨g2, 0, none⟩ m c2 ys (by simpa using hr2.1) (row_news (row_step hr2 b5)) hx2.one (by unfold maxLen; omega) (by omega) b5.size
  have hz5 : ELs w5 none zs L := ((hx1.free).step a1).rows e0 q3
  have hy5 : ELs w5 none ys M := ((hx2.free).step a1).rows e0 q3
  exact ⟨v5, w5, v6, w6, q1, q4, q5, (hz5.rows q2 q6).both (hy5.rows q2 q6), b5.grown q6 b5.size (fun k e => row_own q2 k e)⟩
set_option maxRecDepth 100000 in
set_option maxHeartbeats 4000000 in
theorem forged_l1 (k1 k2 i g : Int) (sl : Value) (l : List Cv) (j g2 : Int) (sm : Value) (m : List Cv) (w : World) (h : CvsAt w sl l) (h2 : CvsAt w sm m) (q1 : 12 < l.length) : Calls Try.prog 5 #[.int .i64 k1, .int .i64 k2, .agg #[.int .i64 i, sl, .int .i64 g], .agg #[.int .i64 j, sm, .int .i64 g2]] w fun e w' => e = .returned (.bool true) ∧ Below w.heap.size w w' := by
  have H := Lib.hid h
  have H2 := Lib.hid h2
  obtain ⟨a, cap, rfl, -, hm, -⟩ := h
  obtain ⟨a', cap', rfl, -, hm2, -⟩ := h2
  unfold maxLen at hm hm2
  have q11 : decide ((l.length : Int) > 12) = true := by simp; omega
  have q12 : decide ((12 : Int) < l.length) = true := by simp; omega
  have HB0 := Lib.hid (Below.refl w.heap.size w)
  go_enter Try.func5, Try.ntmps5
  have KA_1 := Lib.hid (Cs.new w (w.heap.size) #[.int .i64 i, .slice a l.length cap, .int .i64 g] 24 (by simp))
  have HB2 : Hid (Below w.heap.size w (w.alloc (.cells #[.int .i64 i, .slice a l.length cap, .int .i64 g] 24))) := HB0.out.alloc HB0.out.size _
  clear HB0
  have KA_3 := Lib.hid (KA_1.out.alloc (.cells #[.int .i64 j, .slice a' m.length cap', .int .i64 g2] 24))
  clear KA_1
  have KD_4 := Lib.hid (Cs.new (w.alloc (.cells #[.int .i64 i, .slice a l.length cap, .int .i64 g] 24)) (w.heap.size + 1) #[.int .i64 j, .slice a' m.length cap', .int .i64 g2] 24 (by simp))
  have HB5 : Hid (Below w.heap.size w ((w.alloc (.cells #[.int .i64 i, .slice a l.length cap, .int .i64 g] 24)).alloc (.cells #[.int .i64 j, .slice a' m.length cap', .int .i64 g2] 24))) := HB2.out.alloc HB2.out.size _
  clear HB2
  go_wp2_with fail
  refine (head_any _).mono ?_
  rintro e u1 ⟨rfl, b1⟩
  have KA_6 := Lib.hid (KA_3.out.step b1)
  clear KA_3
  have KD_7 := Lib.hid (KD_4.out.step b1)
  clear KD_4
  have HB8 := Lib.hid (keep2 b1 HB5.out)
  clear HB5 b1
  have xA0 : u1.cell? ⟨w.heap.size, 0, none⟩ = some (.int .i64 i) := KA_6.out.c 0 rfl
  have xA1 : u1.cell? ⟨w.heap.size, 1, none⟩ = some (.slice a l.length cap) := KA_6.out.c 1 rfl
  have xA2 : u1.cell? ⟨w.heap.size, 2, none⟩ = some (.int .i64 g) := KA_6.out.c 2 rfl
  have zA : w.heap.size < u1.heap.size := KA_6.out.2.2
  have z2A : w.heap.size < u1.heap.size + 1 := by omega
  have xD0 : u1.cell? ⟨w.heap.size + 1, 0, none⟩ = some (.int .i64 j) := KD_7.out.c 0 rfl
  have xD1 : u1.cell? ⟨w.heap.size + 1, 1, none⟩ = some (.slice a' m.length cap') := KD_7.out.c 1 rfl
  have xD2 : u1.cell? ⟨w.heap.size + 1, 2, none⟩ = some (.int .i64 g2) := KD_7.out.c 2 rfl
  have zD : w.heap.size + 1 < u1.heap.size := KD_7.out.2.2
  have z2D : w.heap.size + 1 < u1.heap.size + 1 := by omega
  go_wp2
  go_ret
  exact ⟨rfl, (by repeat (first | with_reducible exact HB8.out | with_reducible exact Below.refl _ _ | ((with_reducible refine Below.setCell ?_ ?_ _); rotate_left; focus (first | (simp; done) | (simp; omega) | omega)) | ((with_reducible refine Below.alloc ?_ ?_ _); rotate_left; focus (first | (simp; done) | (simp; omega) | omega)) | with_reducible refine Below.trans ?_ (below_drewN' _ _ _) | with_reducible refine Below.trans ?_ (below_drew _ _)))⟩
set_option maxRecDepth 100000 in
set_option maxHeartbeats 4000000 in
theorem forged_l2 (k1 k2 i g : Int) (sl : Value) (l : List Cv) (j g2 : Int) (sm : Value) (m : List Cv) (w : World) (h : CvsAt w sl l) (h2 : CvsAt w sm m) (q1 : l.length ≤ 12) (q2 : 12 < m.length) : Calls Try.prog 5 #[.int .i64 k1, .int .i64 k2, .agg #[.int .i64 i, sl, .int .i64 g], .agg #[.int .i64 j, sm, .int .i64 g2]] w fun e w' => e = .returned (.bool true) ∧ Below w.heap.size w w' := by
  have H := Lib.hid h
  have H2 := Lib.hid h2
  obtain ⟨a, cap, rfl, -, hm, -⟩ := h
  obtain ⟨a', cap', rfl, -, hm2, -⟩ := h2
  unfold maxLen at hm hm2
  have q11 : decide ((l.length : Int) > 12) = false := by simp; omega
  have q12 : decide ((12 : Int) < l.length) = false := by simp; omega
  have q21 : decide ((m.length : Int) > 12) = true := by simp; omega
  have q22 : decide ((12 : Int) < m.length) = true := by simp; omega
  have HB0 := Lib.hid (Below.refl w.heap.size w)
  go_enter Try.func5, Try.ntmps5
  have KA_1 := Lib.hid (Cs.new w (w.heap.size) #[.int .i64 i, .slice a l.length cap, .int .i64 g] 24 (by simp))
  have HB2 : Hid (Below w.heap.size w (w.alloc (.cells #[.int .i64 i, .slice a l.length cap, .int .i64 g] 24))) := HB0.out.alloc HB0.out.size _
  clear HB0
  have KA_3 := Lib.hid (KA_1.out.alloc (.cells #[.int .i64 j, .slice a' m.length cap', .int .i64 g2] 24))
  clear KA_1
  have KD_4 := Lib.hid (Cs.new (w.alloc (.cells #[.int .i64 i, .slice a l.length cap, .int .i64 g] 24)) (w.heap.size + 1) #[.int .i64 j, .slice a' m.length cap', .int .i64 g2] 24 (by simp))
  have HB5 : Hid (Below w.heap.size w ((w.alloc (.cells #[.int .i64 i, .slice a l.length cap, .int .i64 g] 24)).alloc (.cells #[.int .i64 j, .slice a' m.length cap', .int .i64 g2] 24))) := HB2.out.alloc HB2.out.size _
  clear HB2
  go_wp2_with fail
  refine (head_any _).mono ?_
  rintro e u1 ⟨rfl, b1⟩
  have KA_6 := Lib.hid (KA_3.out.step b1)
  clear KA_3
  have KD_7 := Lib.hid (KD_4.out.step b1)
  clear KD_4
  have HB8 := Lib.hid (keep2 b1 HB5.out)
  clear HB5 b1
  have xA0 : u1.cell? ⟨w.heap.size, 0, none⟩ = some (.int .i64 i) := KA_6.out.c 0 rfl
  have xA1 : u1.cell? ⟨w.heap.size, 1, none⟩ = some (.slice a l.length cap) := KA_6.out.c 1 rfl
  have xA2 : u1.cell? ⟨w.heap.size, 2, none⟩ = some (.int .i64 g) := KA_6.out.c 2 rfl
  have zA : w.heap.size < u1.heap.size := KA_6.out.2.2
  have z2A : w.heap.size < u1.heap.size + 1 := by omega
  have xD0 : u1.cell? ⟨w.heap.size + 1, 0, none⟩ = some (.int .i64 j) := KD_7.out.c 0 rfl
  have xD1 : u1.cell? ⟨w.heap.size + 1, 1, none⟩ = some (.slice a' m.length cap') := KD_7.out.c 1 rfl
  have xD2 : u1.cell? ⟨w.heap.size + 1, 2, none⟩ = some (.int .i64 g2) := KD_7.out.c 2 rfl
  have zD : w.heap.size + 1 < u1.heap.size := KD_7.out.2.2
  have z2D : w.heap.size + 1 < u1.heap.size + 1 := by omega
  go_wp2
  go_ret
  exact ⟨rfl, (by repeat (first | with_reducible exact HB8.out | with_reducible exact Below.refl _ _ | ((with_reducible refine Below.setCell ?_ ?_ _); rotate_left; focus (first | (simp; done) | (simp; omega) | omega)) | ((with_reducible refine Below.alloc ?_ ?_ _); rotate_left; focus (first | (simp; done) | (simp; omega) | omega)) | with_reducible refine Below.trans ?_ (below_drewN' _ _ _) | with_reducible refine Below.trans ?_ (below_drew _ _)))⟩
set_option maxRecDepth 100000 in
set_option maxHeartbeats 4000000 in
theorem forged_tag (k1 k2 i g : Int) (sl : Value) (l : List Cv) (j g2 : Int) (sm : Value) (m : List Cv) (w : World) (h : CvsAt w sl l) (h2 : CvsAt w sm m) (q1 : l.length ≤ 12) (q2 : m.length ≤ 12) (q3 : g ≠ g2) : Calls Try.prog 5 #[.int .i64 k1, .int .i64 k2, .agg #[.int .i64 i, sl, .int .i64 g], .agg #[.int .i64 j, sm, .int .i64 g2]] w fun e w' => e = .returned (.bool true) ∧ Below w.heap.size w w' := by
  have H := Lib.hid h
  have H2 := Lib.hid h2
  obtain ⟨a, cap, rfl, -, hm, -⟩ := h
  obtain ⟨a', cap', rfl, -, hm2, -⟩ := h2
  unfold maxLen at hm hm2
  have q11 : decide ((l.length : Int) > 12) = false := by simp; omega
  have q12 : decide ((12 : Int) < l.length) = false := by simp; omega
  have q21 : decide ((m.length : Int) > 12) = false := by simp; omega
  have q22 : decide ((12 : Int) < m.length) = false := by simp; omega
  have q31 : (g != g2) = true := by simpa using q3
  have q32 : (g == g2) = false := by simpa using q3
  have q33 : decide (g = g2) = false := by simpa using q3
  have HB0 := Lib.hid (Below.refl w.heap.size w)
  go_enter Try.func5, Try.ntmps5
  have KA_1 := Lib.hid (Cs.new w (w.heap.size) #[.int .i64 i, .slice a l.length cap, .int .i64 g] 24 (by simp))
  have HB2 : Hid (Below w.heap.size w (w.alloc (.cells #[.int .i64 i, .slice a l.length cap, .int .i64 g] 24))) := HB0.out.alloc HB0.out.size _
  clear HB0
  have KA_3 := Lib.hid (KA_1.out.alloc (.cells #[.int .i64 j, .slice a' m.length cap', .int .i64 g2] 24))
  clear KA_1
  have KD_4 := Lib.hid (Cs.new (w.alloc (.cells #[.int .i64 i, .slice a l.length cap, .int .i64 g] 24)) (w.heap.size + 1) #[.int .i64 j, .slice a' m.length cap', .int .i64 g2] 24 (by simp))
  have HB5 : Hid (Below w.heap.size w ((w.alloc (.cells #[.int .i64 i, .slice a l.length cap, .int .i64 g] 24)).alloc (.cells #[.int .i64 j, .slice a' m.length cap', .int .i64 g2] 24))) := HB2.out.alloc HB2.out.size _
  clear HB2
  go_wp2_with fail
  refine (head_any _).mono ?_
  rintro e u1 ⟨rfl, b1⟩
  have KA_6 := Lib.hid (KA_3.out.step b1)
  clear KA_3
  have KD_7 := Lib.hid (KD_4.out.step b1)
  clear KD_4
  have HB8 := Lib.hid (keep2 b1 HB5.out)
  clear HB5 b1
  have xA0 : u1.cell? ⟨w.heap.size, 0, none⟩ = some (.int .i64 i) := KA_6.out.c 0 rfl
  have xA1 : u1.cell? ⟨w.heap.size, 1, none⟩ = some (.slice a l.length cap) := KA_6.out.c 1 rfl
  have xA2 : u1.cell? ⟨w.heap.size, 2, none⟩ = some (.int .i64 g) := KA_6.out.c 2 rfl
  have zA : w.heap.size < u1.heap.size := KA_6.out.2.2
  have z2A : w.heap.size < u1.heap.size + 1 := by omega
  have xD0 : u1.cell? ⟨w.heap.size + 1, 0, none⟩ = some (.int .i64 j) := KD_7.out.c 0 rfl
  have xD1 : u1.cell? ⟨w.heap.size + 1, 1, none⟩ = some (.slice a' m.length cap') := KD_7.out.c 1 rfl
  have xD2 : u1.cell? ⟨w.heap.size + 1, 2, none⟩ = some (.int .i64 g2) := KD_7.out.c 2 rfl
  have zD : w.heap.size + 1 < u1.heap.size := KD_7.out.2.2
  have z2D : w.heap.size + 1 < u1.heap.size + 1 := by omega
  go_wp2
  go_ret
  exact ⟨rfl, (by repeat (first | with_reducible exact HB8.out | with_reducible exact Below.refl _ _ | ((with_reducible refine Below.setCell ?_ ?_ _); rotate_left; focus (first | (simp; done) | (simp; omega) | omega)) | ((with_reducible refine Below.alloc ?_ ?_ _); rotate_left; focus (first | (simp; done) | (simp; omega) | omega)) | with_reducible refine Below.trans ?_ (below_drewN' _ _ _) | with_reducible refine Below.trans ?_ (below_drew _ _)))⟩
set_option maxRecDepth 100000 in
set_option maxHeartbeats 4000000 in
theorem forged_gn1 (k1 k2 i g : Int) (sl : Value) (l : List Cv) (j g2 : Int) (sm : Value) (m : List Cv) (w : World) (h : CvsAt w sl l) (h2 : CvsAt w sm m) (q1 : l.length ≤ 12) (q2 : m.length ≤ 12) (q3 : g = g2) (q4 : gnB k1 i g l = false) : Calls Try.prog 5 #[.int .i64 k1, .int .i64 k2, .agg #[.int .i64 i, sl, .int .i64 g], .agg #[.int .i64 j, sm, .int .i64 g2]] w fun e w' => e = .returned (.bool true) ∧ Below w.heap.size w w' := by
  have H := Lib.hid h
  have H2 := Lib.hid h2
  obtain ⟨a, cap, rfl, -, hm, -⟩ := h
  obtain ⟨a', cap', rfl, -, hm2, -⟩ := h2
  unfold maxLen at hm hm2
  have q11 : decide ((l.length : Int) > 12) = false := by simp; omega
  have q12 : decide ((12 : Int) < l.length) = false := by simp; omega
  have q21 : decide ((m.length : Int) > 12) = false := by simp; omega
  have q22 : decide ((12 : Int) < m.length) = false := by simp; omega
  subst q3
  have Q4 := Lib.hid q4
  clear q4
  have HB0 := Lib.hid (Below.refl w.heap.size w)
  go_enter Try.func5, Try.ntmps5
  have KA_1 := Lib.hid (Cs.new w (w.heap.size) #[.int .i64 i, .slice a l.length cap, .int .i64 g] 24 (by simp))
  have HB2 : Hid (Below w.heap.size w (w.alloc (.cells #[.int .i64 i, .slice a l.length cap, .int .i64 g] 24))) := HB0.out.alloc HB0.out.size _
  clear HB0
  have KA_3 := Lib.hid (KA_1.out.alloc (.cells #[.int .i64 j, .slice a' m.length cap', .int .i64 g] 24))
  clear KA_1
  have KD_4 := Lib.hid (Cs.new (w.alloc (.cells #[.int .i64 i, .slice a l.length cap, .int .i64 g] 24)) (w.heap.size + 1) #[.int .i64 j, .slice a' m.length cap', .int .i64 g] 24 (by simp))
  have HB5 : Hid (Below w.heap.size w ((w.alloc (.cells #[.int .i64 i, .slice a l.length cap, .int .i64 g] 24)).alloc (.cells #[.int .i64 j, .slice a' m.length cap', .int .i64 g] 24))) := HB2.out.alloc HB2.out.size _
  clear HB2
  go_wp2_with fail
  refine (head_any _).mono ?_
  rintro e u1 ⟨rfl, b1⟩
  have KA_6 := Lib.hid (KA_3.out.step b1)
  clear KA_3
  have KD_7 := Lib.hid (KD_4.out.step b1)
  clear KD_4
  have HB8 := Lib.hid (keep2 b1 HB5.out)
  clear HB5 b1
  have xA0 : u1.cell? ⟨w.heap.size, 0, none⟩ = some (.int .i64 i) := KA_6.out.c 0 rfl
  have xA1 : u1.cell? ⟨w.heap.size, 1, none⟩ = some (.slice a l.length cap) := KA_6.out.c 1 rfl
  have xA2 : u1.cell? ⟨w.heap.size, 2, none⟩ = some (.int .i64 g) := KA_6.out.c 2 rfl
  have zA : w.heap.size < u1.heap.size := KA_6.out.2.2
  have z2A : w.heap.size < u1.heap.size + 1 := by omega
  have xD0 : u1.cell? ⟨w.heap.size + 1, 0, none⟩ = some (.int .i64 j) := KD_7.out.c 0 rfl
  have xD1 : u1.cell? ⟨w.heap.size + 1, 1, none⟩ = some (.slice a' m.length cap') := KD_7.out.c 1 rfl
  have xD2 : u1.cell? ⟨w.heap.size + 1, 2, none⟩ = some (.int .i64 g) := KD_7.out.c 2 rfl
  have zD : w.heap.size + 1 < u1.heap.size := KD_7.out.2.2
  have z2D : w.heap.size + 1 < u1.heap.size + 1 := by omega
  go_wp2_with fail
  refine (genuine_any k1 i g _ l _ (H.out.step HB8.out)).mono ?_
  rintro e u2 ⟨rfl, b2⟩
  clear xA0 xA1 xA2 zA z2A xD0 xD1 xD2 zD z2D
  have KA_9 := Lib.hid (KA_6.out.step b2)
  clear KA_6
  have KD_10 := Lib.hid (KD_7.out.step b2)
  clear KD_7
  have HB11 := Lib.hid (keep2 b2 HB8.out)
  clear HB8 b2
  rw [Q4.out]
  have xA0 : u2.cell? ⟨w.heap.size, 0, none⟩ = some (.int .i64 i) := KA_9.out.c 0 rfl
  have xA1 : u2.cell? ⟨w.heap.size, 1, none⟩ = some (.slice a l.length cap) := KA_9.out.c 1 rfl
  have xA2 : u2.cell? ⟨w.heap.size, 2, none⟩ = some (.int .i64 g) := KA_9.out.c 2 rfl
  have zA : w.heap.size < u2.heap.size := KA_9.out.2.2
  have z2A : w.heap.size < u2.heap.size + 1 := by omega
  have xD0 : u2.cell? ⟨w.heap.size + 1, 0, none⟩ = some (.int .i64 j) := KD_10.out.c 0 rfl
  have xD1 : u2.cell? ⟨w.heap.size + 1, 1, none⟩ = some (.slice a' m.length cap') := KD_10.out.c 1 rfl
  have xD2 : u2.cell? ⟨w.heap.size + 1, 2, none⟩ = some (.int .i64 g) := KD_10.out.c 2 rfl
  have zD : w.heap.size + 1 < u2.heap.size := KD_10.out.2.2
  have z2D : w.heap.size + 1 < u2.heap.size + 1 := by omega
  go_wp2
  go_ret
  exact ⟨rfl, (by repeat (first | with_reducible exact HB11.out | with_reducible exact Below.refl _ _ | ((with_reducible refine Below.setCell ?_ ?_ _); rotate_left; focus (first | (simp; done) | (simp; omega) | omega)) | ((with_reducible refine Below.alloc ?_ ?_ _); rotate_left; focus (first | (simp; done) | (simp; omega) | omega)) | with_reducible refine Below.trans ?_ (below_drewN' _ _ _) | with_reducible refine Below.trans ?_ (below_drew _ _)))⟩
set_option maxRecDepth 100000 in
set_option maxHeartbeats 4000000 in
theorem forged_gn2 (k1 k2 i g : Int) (sl : Value) (l : List Cv) (j g2 : Int) (sm : Value) (m : List Cv) (w : World) (h : CvsAt w sl l) (h2 : CvsAt w sm m) (q1 : l.length ≤ 12) (q2 : m.length ≤ 12) (q3 : g = g2) (q4 : gnB k1 i g l = true) (q5 : gnB k2 j g m = false) : Calls Try.prog 5 #[.int .i64 k1, .int .i64 k2, .agg #[.int .i64 i, sl, .int .i64 g], .agg #[.int .i64 j, sm, .int .i64 g2]] w fun e w' => e = .returned (.bool true) ∧ Below w.heap.size w w' := by
  have H := Lib.hid h
  have H2 := Lib.hid h2
  obtain ⟨a, cap, rfl, -, hm, -⟩ := h
  obtain ⟨a', cap', rfl, -, hm2, -⟩ := h2
  unfold maxLen at hm hm2
  have q11 : decide ((l.length : Int) > 12) = false := by simp; omega
  have q12 : decide ((12 : Int) < l.length) = false := by simp; omega
  have q21 : decide ((m.length : Int) > 12) = false := by simp; omega
  have q22 : decide ((12 : Int) < m.length) = false := by simp; omega
  subst q3
  have Q4 := Lib.hid q4
  clear q4
  have Q5 := Lib.hid q5
  clear q5
  have HB0 := Lib.hid (Below.refl w.heap.size w)
  go_enter Try.func5, Try.ntmps5
  have KA_1 := Lib.hid (Cs.new w (w.heap.size) #[.int .i64 i, .slice a l.length cap, .int .i64 g] 24 (by simp))
  have HB2 : Hid (Below w.heap.size w (w.alloc (.cells #[.int .i64 i, .slice a l.length cap, .int .i64 g] 24))) := HB0.out.alloc HB0.out.size _
  clear HB0
  have KA_3 := Lib.hid (KA_1.out.alloc (.cells #[.int .i64 j, .slice a' m.length cap', .int .i64 g] 24))
  clear KA_1
  have KD_4 := Lib.hid (Cs.new (w.alloc (.cells #[.int .i64 i, .slice a l.length cap, .int .i64 g] 24)) (w.heap.size + 1) #[.int .i64 j, .slice a' m.length cap', .int .i64 g] 24 (by simp))
  have HB5 : Hid (Below w.heap.size w ((w.alloc (.cells #[.int .i64 i, .slice a l.length cap, .int .i64 g] 24)).alloc (.cells #[.int .i64 j, .slice a' m.length cap', .int .i64 g] 24))) := HB2.out.alloc HB2.out.size _
  clear HB2
  go_wp2_with fail
  refine (head_any _).mono ?_
  rintro e u1 ⟨rfl, b1⟩
  have KA_6 := Lib.hid (KA_3.out.step b1)
  clear KA_3
  have KD_7 := Lib.hid (KD_4.out.step b1)
  clear KD_4
  have HB8 := Lib.hid (keep2 b1 HB5.out)
  clear HB5 b1
  have xA0 : u1.cell? ⟨w.heap.size, 0, none⟩ = some (.int .i64 i) := KA_6.out.c 0 rfl
  have xA1 : u1.cell? ⟨w.heap.size, 1, none⟩ = some (.slice a l.length cap) := KA_6.out.c 1 rfl
  have xA2 : u1.cell? ⟨w.heap.size, 2, none⟩ = some (.int .i64 g) := KA_6.out.c 2 rfl
  have zA : w.heap.size < u1.heap.size := KA_6.out.2.2
  have z2A : w.heap.size < u1.heap.size + 1 := by omega
  have xD0 : u1.cell? ⟨w.heap.size + 1, 0, none⟩ = some (.int .i64 j) := KD_7.out.c 0 rfl
  have xD1 : u1.cell? ⟨w.heap.size + 1, 1, none⟩ = some (.slice a' m.length cap') := KD_7.out.c 1 rfl
  have xD2 : u1.cell? ⟨w.heap.size + 1, 2, none⟩ = some (.int .i64 g) := KD_7.out.c 2 rfl
  have zD : w.heap.size + 1 < u1.heap.size := KD_7.out.2.2
  have z2D : w.heap.size + 1 < u1.heap.size + 1 := by omega
  go_wp2_with fail
  refine (genuine_any k1 i g _ l _ (H.out.step HB8.out)).mono ?_
  rintro e u2 ⟨rfl, b2⟩
  clear xA0 xA1 xA2 zA z2A xD0 xD1 xD2 zD z2D
  have KA_9 := Lib.hid (KA_6.out.step b2)
  clear KA_6
  have KD_10 := Lib.hid (KD_7.out.step b2)
  clear KD_7
  have HB11 := Lib.hid (keep2 b2 HB8.out)
  clear HB8 b2
  rw [Q4.out]
  have xA0 : u2.cell? ⟨w.heap.size, 0, none⟩ = some (.int .i64 i) := KA_9.out.c 0 rfl
  have xA1 : u2.cell? ⟨w.heap.size, 1, none⟩ = some (.slice a l.length cap) := KA_9.out.c 1 rfl
  have xA2 : u2.cell? ⟨w.heap.size, 2, none⟩ = some (.int .i64 g) := KA_9.out.c 2 rfl
  have zA : w.heap.size < u2.heap.size := KA_9.out.2.2
  have z2A : w.heap.size < u2.heap.size + 1 := by omega
  have xD0 : u2.cell? ⟨w.heap.size + 1, 0, none⟩ = some (.int .i64 j) := KD_10.out.c 0 rfl
  have xD1 : u2.cell? ⟨w.heap.size + 1, 1, none⟩ = some (.slice a' m.length cap') := KD_10.out.c 1 rfl
  have xD2 : u2.cell? ⟨w.heap.size + 1, 2, none⟩ = some (.int .i64 g) := KD_10.out.c 2 rfl
  have zD : w.heap.size + 1 < u2.heap.size := KD_10.out.2.2
  have z2D : w.heap.size + 1 < u2.heap.size + 1 := by omega
  go_wp2_with fail
  refine (genuine_any k2 j g _ m _ (H2.out.step HB11.out)).mono ?_
  rintro e u3 ⟨rfl, b3⟩
  clear xA0 xA1 xA2 zA z2A xD0 xD1 xD2 zD z2D
  have KA_12 := Lib.hid (KA_9.out.step b3)
  clear KA_9
  have KD_13 := Lib.hid (KD_10.out.step b3)
  clear KD_10
  have HB14 := Lib.hid (keep2 b3 HB11.out)
  clear HB11 b3
  rw [Q5.out]
  have xA0 : u3.cell? ⟨w.heap.size, 0, none⟩ = some (.int .i64 i) := KA_12.out.c 0 rfl
  have xA1 : u3.cell? ⟨w.heap.size, 1, none⟩ = some (.slice a l.length cap) := KA_12.out.c 1 rfl
  have xA2 : u3.cell? ⟨w.heap.size, 2, none⟩ = some (.int .i64 g) := KA_12.out.c 2 rfl
  have zA : w.heap.size < u3.heap.size := KA_12.out.2.2
  have z2A : w.heap.size < u3.heap.size + 1 := by omega
  have xD0 : u3.cell? ⟨w.heap.size + 1, 0, none⟩ = some (.int .i64 j) := KD_13.out.c 0 rfl
  have xD1 : u3.cell? ⟨w.heap.size + 1, 1, none⟩ = some (.slice a' m.length cap') := KD_13.out.c 1 rfl
  have xD2 : u3.cell? ⟨w.heap.size + 1, 2, none⟩ = some (.int .i64 g) := KD_13.out.c 2 rfl
  have zD : w.heap.size + 1 < u3.heap.size := KD_13.out.2.2
  have z2D : w.heap.size + 1 < u3.heap.size + 1 := by omega
  go_wp2
  go_ret
  exact ⟨rfl, (by repeat (first | with_reducible exact HB14.out | with_reducible exact Below.refl _ _ | ((with_reducible refine Below.setCell ?_ ?_ _); rotate_left; focus (first | (simp; done) | (simp; omega) | omega)) | ((with_reducible refine Below.alloc ?_ ?_ _); rotate_left; focus (first | (simp; done) | (simp; omega) | omega)) | with_reducible refine Below.trans ?_ (below_drewN' _ _ _) | with_reducible refine Below.trans ?_ (below_drew _ _)))⟩
set_option maxRecDepth 100000 in
set_option maxHeartbeats 4000000 in
theorem forged_same (k1 k2 i g : Int) (sl : Value) (l : List Cv) (j g2 : Int) (sm : Value) (m : List Cv) (w : World) (h : CvsAt w sl l) (h2 : CvsAt w sm m) (q1 : l.length ≤ 12) (q2 : m.length ≤ 12) (q3 : g = g2) (q4 : gnB k1 i g l = true) (q5 : gnB k2 j g m = true) (q6 : k1 = k2) : Calls Try.prog 5 #[.int .i64 k1, .int .i64 k2, .agg #[.int .i64 i, sl, .int .i64 g], .agg #[.int .i64 j, sm, .int .i64 g2]] w fun e w' => e = .returned (.bool true) ∧ Below w.heap.size w w' := by
  have H := Lib.hid h
  have H2 := Lib.hid h2
  obtain ⟨a, cap, rfl, -, hm, -⟩ := h
  obtain ⟨a', cap', rfl, -, hm2, -⟩ := h2
  unfold maxLen at hm hm2
  have q11 : decide ((l.length : Int) > 12) = false := by simp; omega
  have q12 : decide ((12 : Int) < l.length) = false := by simp; omega
  have q21 : decide ((m.length : Int) > 12) = false := by simp; omega
  have q22 : decide ((12 : Int) < m.length) = false := by simp; omega
  subst q3
  have Q4 := Lib.hid q4
  clear q4
  have Q5 := Lib.hid q5
  clear q5
  subst q6
  have HB0 := Lib.hid (Below.refl w.heap.size w)
  go_enter Try.func5, Try.ntmps5
  have KA_1 := Lib.hid (Cs.new w (w.heap.size) #[.int .i64 i, .slice a l.length cap, .int .i64 g] 24 (by simp))
  have HB2 : Hid (Below w.heap.size w (w.alloc (.cells #[.int .i64 i, .slice a l.length cap, .int .i64 g] 24))) := HB0.out.alloc HB0.out.size _
  clear HB0
  have KA_3 := Lib.hid (KA_1.out.alloc (.cells #[.int .i64 j, .slice a' m.length cap', .int .i64 g] 24))
  clear KA_1
  have KD_4 := Lib.hid (Cs.new (w.alloc (.cells #[.int .i64 i, .slice a l.length cap, .int .i64 g] 24)) (w.heap.size + 1) #[.int .i64 j, .slice a' m.length cap', .int .i64 g] 24 (by simp))
  have HB5 : Hid (Below w.heap.size w ((w.alloc (.cells #[.int .i64 i, .slice a l.length cap, .int .i64 g] 24)).alloc (.cells #[.int .i64 j, .slice a' m.length cap', .int .i64 g] 24))) := HB2.out.alloc HB2.out.size _
  clear HB2
  go_wp2_with fail
  refine (head_any _).mono ?_
  rintro e u1 ⟨rfl, b1⟩
  have KA_6 := Lib.hid (KA_3.out.step b1)
  clear KA_3
  have KD_7 := Lib.hid (KD_4.out.step b1)
  clear KD_4
  have HB8 := Lib.hid (keep2 b1 HB5.out)
  clear HB5 b1
  have xA0 : u1.cell? ⟨w.heap.size, 0, none⟩ = some (.int .i64 i) := KA_6.out.c 0 rfl
  have xA1 : u1.cell? ⟨w.heap.size, 1, none⟩ = some (.slice a l.length cap) := KA_6.out.c 1 rfl
  have xA2 : u1.cell? ⟨w.heap.size, 2, none⟩ = some (.int .i64 g) := KA_6.out.c 2 rfl
  have zA : w.heap.size < u1.heap.size := KA_6.out.2.2
  have z2A : w.heap.size < u1.heap.size + 1 := by omega
  have xD0 : u1.cell? ⟨w.heap.size + 1, 0, none⟩ = some (.int .i64 j) := KD_7.out.c 0 rfl
  have xD1 : u1.cell? ⟨w.heap.size + 1, 1, none⟩ = some (.slice a' m.length cap') := KD_7.out.c 1 rfl
  have xD2 : u1.cell? ⟨w.heap.size + 1, 2, none⟩ = some (.int .i64 g) := KD_7.out.c 2 rfl
  have zD : w.heap.size + 1 < u1.heap.size := KD_7.out.2.2
  have z2D : w.heap.size + 1 < u1.heap.size + 1 := by omega
  go_wp2_with fail
  refine (genuine_any k1 i g _ l _ (H.out.step HB8.out)).mono ?_
  rintro e u2 ⟨rfl, b2⟩
  clear xA0 xA1 xA2 zA z2A xD0 xD1 xD2 zD z2D
  have KA_9 := Lib.hid (KA_6.out.step b2)
  clear KA_6
  have KD_10 := Lib.hid (KD_7.out.step b2)
  clear KD_7
  have HB11 := Lib.hid (keep2 b2 HB8.out)
  clear HB8 b2
  rw [Q4.out]
  have xA0 : u2.cell? ⟨w.heap.size, 0, none⟩ = some (.int .i64 i) := KA_9.out.c 0 rfl
  have xA1 : u2.cell? ⟨w.heap.size, 1, none⟩ = some (.slice a l.length cap) := KA_9.out.c 1 rfl
  have xA2 : u2.cell? ⟨w.heap.size, 2, none⟩ = some (.int .i64 g) := KA_9.out.c 2 rfl
  have zA : w.heap.size < u2.heap.size := KA_9.out.2.2
  have z2A : w.heap.size < u2.heap.size + 1 := by omega
  have xD0 : u2.cell? ⟨w.heap.size + 1, 0, none⟩ = some (.int .i64 j) := KD_10.out.c 0 rfl
  have xD1 : u2.cell? ⟨w.heap.size + 1, 1, none⟩ = some (.slice a' m.length cap') := KD_10.out.c 1 rfl
  have xD2 : u2.cell? ⟨w.heap.size + 1, 2, none⟩ = some (.int .i64 g) := KD_10.out.c 2 rfl
  have zD : w.heap.size + 1 < u2.heap.size := KD_10.out.2.2
  have z2D : w.heap.size + 1 < u2.heap.size + 1 := by omega
  go_wp2_with fail
  refine (genuine_any k1 j g _ m _ (H2.out.step HB11.out)).mono ?_
  rintro e u3 ⟨rfl, b3⟩
  clear xA0 xA1 xA2 zA z2A xD0 xD1 xD2 zD z2D
  have KA_12 := Lib.hid (KA_9.out.step b3)
  clear KA_9
  have KD_13 := Lib.hid (KD_10.out.step b3)
  clear KD_10
  have HB14 := Lib.hid (keep2 b3 HB11.out)
  clear HB11 b3
  rw [Q5.out]
  have xA0 : u3.cell? ⟨w.heap.size, 0, none⟩ = some (.int .i64 i) := KA_12.out.c 0 rfl
  have xA1 : u3.cell? ⟨w.heap.size, 1, none⟩ = some (.slice a l.length cap) := KA_12.out.c 1 rfl
  have xA2 : u3.cell? ⟨w.heap.size, 2, none⟩ = some (.int .i64 g) := KA_12.out.c 2 rfl
  have zA : w.heap.size < u3.heap.size := KA_12.out.2.2
  have z2A : w.heap.size < u3.heap.size + 1 := by omega
  have xD0 : u3.cell? ⟨w.heap.size + 1, 0, none⟩ = some (.int .i64 j) := KD_13.out.c 0 rfl
  have xD1 : u3.cell? ⟨w.heap.size + 1, 1, none⟩ = some (.slice a' m.length cap') := KD_13.out.c 1 rfl
  have xD2 : u3.cell? ⟨w.heap.size + 1, 2, none⟩ = some (.int .i64 g) := KD_13.out.c 2 rfl
  have zD : w.heap.size + 1 < u3.heap.size := KD_13.out.2.2
  have z2D : w.heap.size + 1 < u3.heap.size + 1 := by omega
  go_wp2_with fail
  refine (same_any i g j g _ _ l m _ (H.out.step HB14.out) (H2.out.step HB14.out)).mono ?_
  rintro e u30 ⟨b, rfl, hb, b30⟩
  clear xA0 xA1 xA2 zA z2A xD0 xD1 xD2 zD z2D
  have KA_15 := Lib.hid (KA_12.out.step b30)
  clear KA_12
  have KD_16 := Lib.hid (KD_13.out.step b30)
  clear KD_13
  have HB17 := Lib.hid (keep2 b30 HB14.out)
  clear HB14 b30
  cases b
  case true =>
    go_wp2
    go_ret
    exact ⟨rfl, HB17.out⟩
  have QC := Lib.hid (forged Q4.out Q5.out (fun h => by
    have h3 := hb.2 ⟨h.2.1, rfl, h.2.2⟩
    cases h3))
  clear hb
  have xA0 : u30.cell? ⟨w.heap.size, 0, none⟩ = some (.int .i64 i) := KA_15.out.c 0 rfl
  have xA1 : u30.cell? ⟨w.heap.size, 1, none⟩ = some (.slice a l.length cap) := KA_15.out.c 1 rfl
  have xA2 : u30.cell? ⟨w.heap.size, 2, none⟩ = some (.int .i64 g) := KA_15.out.c 2 rfl
  have zA : w.heap.size < u30.heap.size := KA_15.out.2.2
  have z2A : w.heap.size < u30.heap.size + 1 := by omega
  have xD0 : u30.cell? ⟨w.heap.size + 1, 0, none⟩ = some (.int .i64 j) := KD_16.out.c 0 rfl
  have xD1 : u30.cell? ⟨w.heap.size + 1, 1, none⟩ = some (.slice a' m.length cap') := KD_16.out.c 1 rfl
  have xD2 : u30.cell? ⟨w.heap.size + 1, 2, none⟩ = some (.int .i64 g) := KD_16.out.c 2 rfl
  have zD : w.heap.size + 1 < u30.heap.size := KD_16.out.2.2
  have z2D : w.heap.size + 1 < u30.heap.size + 1 := by omega
  go_wp2_with fail
  refine (rtags_any k1 i g _ l _ (H.out.step HB17.out) (by omega)).mono ?_
  rintro e u31 ⟨tu, tz, rfl, htg, b31⟩
  obtain ⟨zs, -, hr, hx⟩ := htg
  obtain ⟨gz, zc, rfl, -, -⟩ := hr.form (by omega)
  have HR := Lib.hid hr
  have HX := Lib.hid hx
  clear hr hx
  clear xA0 xA1 xA2 zA z2A xD0 xD1 xD2 zD z2D
  have KA_18 := Lib.hid (KA_15.out.step b31)
  clear KA_15
  have KD_19 := Lib.hid (KD_16.out.step b31)
  clear KD_16
  have HB20 := Lib.hid (keep2 b31 HB17.out)
  clear HB17 b31
  have xA0 : u31.cell? ⟨w.heap.size, 0, none⟩ = some (.int .i64 i) := KA_18.out.c 0 rfl
  have xA1 : u31.cell? ⟨w.heap.size, 1, none⟩ = some (.slice a l.length cap) := KA_18.out.c 1 rfl
  have xA2 : u31.cell? ⟨w.heap.size, 2, none⟩ = some (.int .i64 g) := KA_18.out.c 2 rfl
  have zA : w.heap.size < u31.heap.size := KA_18.out.2.2
  have z2A : w.heap.size < u31.heap.size + 1 := by omega
  have xD0 : u31.cell? ⟨w.heap.size + 1, 0, none⟩ = some (.int .i64 j) := KD_19.out.c 0 rfl
  have xD1 : u31.cell? ⟨w.heap.size + 1, 1, none⟩ = some (.slice a' m.length cap') := KD_19.out.c 1 rfl
  have xD2 : u31.cell? ⟨w.heap.size + 1, 2, none⟩ = some (.int .i64 g) := KD_19.out.c 2 rfl
  have zD : w.heap.size + 1 < u31.heap.size := KD_19.out.2.2
  have z2D : w.heap.size + 1 < u31.heap.size + 1 := by omega
  go_wp2_with fail
  refine (rtags_any k1 j g _ m _ (H2.out.step HB20.out) (by omega)).mono ?_
  rintro e u32 ⟨tv, ty, rfl, htg, b32⟩
  obtain ⟨ys, -, hr, hx⟩ := htg
  obtain ⟨gy, yc, rfl, -, -⟩ := hr.form (by omega)
  have HR2 := Lib.hid hr
  have HX2 := Lib.hid hx
  clear hr hx
  replace HR := Lib.hid (row_step HR.out b32)
  replace HX := Lib.hid (HX.out.step b32)
  clear xA0 xA1 xA2 zA z2A xD0 xD1 xD2 zD z2D
  have KA_21 := Lib.hid (KA_18.out.step b32)
  clear KA_18
  have KD_22 := Lib.hid (KD_19.out.step b32)
  clear KD_19
  have HB23 := Lib.hid (keep2 b32 HB20.out)
  clear HB20 b32
  obtain ⟨v5, w5, v6, w6, q5, q6, q7, q8, q9⟩ := two_lists HR.out HX.out HR2.out HX2.out (by omega) (by omega) (by omega)
  have hLn : l.length + 1 + (m.length + 1) = (lsL k1 i l (l.length + 1) ++ lsL k1 j m (m.length + 1)).length := by rw [List.length_append, lsL_len, lsL_len]
  have hL26 : (lsL k1 i l (l.length + 1) ++ lsL k1 j m (m.length + 1)).length ≤ 100 := by rw [← hLn]; omega
  rw [hLn] at q7
  have Q7 := Lib.hid q7
  have Q8 := Lib.hid q8
  have Q9 := Lib.hid q9
  clear q7 q8 q9 hLn HR HX HR2 HX2
  go_wp2_with (first | (at_builtin; refine wpList_app_g _ _ 45 rfl (by simp [Region.wanted, yielded]) _ _ v5 rfl rfl q5 ?_) | (at_builtin; refine wpList_app_g _ _ 45 rfl (by simp [Region.wanted, yielded]) _ _ v6 rfl rfl q6 ?_))
  refine (collide_yes _ _ _ _ _ _ Q7.out Q8.out hL26 QC.out).mono ?_
  rintro e u40 ⟨rfl, b40⟩
  have HZ := Lib.hid (keep2 b40 (keep2 Q9.out HB23.out))
  clear b40
  go_wp2
  go_ret
  exact ⟨rfl, HZ.out⟩
set_option maxRecDepth 100000 in
set_option maxHeartbeats 4000000 in
theorem forged_two (k1 k2 i g : Int) (sl : Value) (l : List Cv) (j g2 : Int) (sm : Value) (m : List Cv) (w : World) (h : CvsAt w sl l) (h2 : CvsAt w sm m) (q1 : l.length ≤ 12) (q2 : m.length ≤ 12) (q3 : g = g2) (q4 : gnB k1 i g l = true) (q5 : gnB k2 j g m = true) (q6 : k1 ≠ k2) : Calls Try.prog 5 #[.int .i64 k1, .int .i64 k2, .agg #[.int .i64 i, sl, .int .i64 g], .agg #[.int .i64 j, sm, .int .i64 g2]] w fun e w' => e = .returned (.bool true) ∧ Below w.heap.size w w' := by
  have H := Lib.hid h
  have H2 := Lib.hid h2
  obtain ⟨a, cap, rfl, -, hm, -⟩ := h
  obtain ⟨a', cap', rfl, -, hm2, -⟩ := h2
  unfold maxLen at hm hm2
  have q11 : decide ((l.length : Int) > 12) = false := by simp; omega
  have q12 : decide ((12 : Int) < l.length) = false := by simp; omega
  have q21 : decide ((m.length : Int) > 12) = false := by simp; omega
  have q22 : decide ((12 : Int) < m.length) = false := by simp; omega
  subst q3
  have Q4 := Lib.hid q4
  clear q4
  have Q5 := Lib.hid q5
  clear q5
  have q61 : (k1 == k2) = false := by simpa using q6
  have q62 : decide (k1 = k2) = false := by simpa using q6
  have QC := Lib.hid (forged Q4.out Q5.out (fun h => q6 h.1))
  clear q6
  have HB0 := Lib.hid (Below.refl w.heap.size w)
  go_enter Try.func5, Try.ntmps5
  have KA_1 := Lib.hid (Cs.new w (w.heap.size) #[.int .i64 i, .slice a l.length cap, .int .i64 g] 24 (by simp))
  have HB2 : Hid (Below w.heap.size w (w.alloc (.cells #[.int .i64 i, .slice a l.length cap, .int .i64 g] 24))) := HB0.out.alloc HB0.out.size _
  clear HB0
  have KA_3 := Lib.hid (KA_1.out.alloc (.cells #[.int .i64 j, .slice a' m.length cap', .int .i64 g] 24))
  clear KA_1
  have KD_4 := Lib.hid (Cs.new (w.alloc (.cells #[.int .i64 i, .slice a l.length cap, .int .i64 g] 24)) (w.heap.size + 1) #[.int .i64 j, .slice a' m.length cap', .int .i64 g] 24 (by simp))
  have HB5 : Hid (Below w.heap.size w ((w.alloc (.cells #[.int .i64 i, .slice a l.length cap, .int .i64 g] 24)).alloc (.cells #[.int .i64 j, .slice a' m.length cap', .int .i64 g] 24))) := HB2.out.alloc HB2.out.size _
  clear HB2
  go_wp2_with fail
  refine (head_any _).mono ?_
  rintro e u1 ⟨rfl, b1⟩
  have KA_6 := Lib.hid (KA_3.out.step b1)
  clear KA_3
  have KD_7 := Lib.hid (KD_4.out.step b1)
  clear KD_4
  have HB8 := Lib.hid (keep2 b1 HB5.out)
  clear HB5 b1
  have xA0 : u1.cell? ⟨w.heap.size, 0, none⟩ = some (.int .i64 i) := KA_6.out.c 0 rfl
  have xA1 : u1.cell? ⟨w.heap.size, 1, none⟩ = some (.slice a l.length cap) := KA_6.out.c 1 rfl
  have xA2 : u1.cell? ⟨w.heap.size, 2, none⟩ = some (.int .i64 g) := KA_6.out.c 2 rfl
  have zA : w.heap.size < u1.heap.size := KA_6.out.2.2
  have z2A : w.heap.size < u1.heap.size + 1 := by omega
  have xD0 : u1.cell? ⟨w.heap.size + 1, 0, none⟩ = some (.int .i64 j) := KD_7.out.c 0 rfl
  have xD1 : u1.cell? ⟨w.heap.size + 1, 1, none⟩ = some (.slice a' m.length cap') := KD_7.out.c 1 rfl
  have xD2 : u1.cell? ⟨w.heap.size + 1, 2, none⟩ = some (.int .i64 g) := KD_7.out.c 2 rfl
  have zD : w.heap.size + 1 < u1.heap.size := KD_7.out.2.2
  have z2D : w.heap.size + 1 < u1.heap.size + 1 := by omega
  go_wp2_with fail
  refine (genuine_any k1 i g _ l _ (H.out.step HB8.out)).mono ?_
  rintro e u2 ⟨rfl, b2⟩
  clear xA0 xA1 xA2 zA z2A xD0 xD1 xD2 zD z2D
  have KA_9 := Lib.hid (KA_6.out.step b2)
  clear KA_6
  have KD_10 := Lib.hid (KD_7.out.step b2)
  clear KD_7
  have HB11 := Lib.hid (keep2 b2 HB8.out)
  clear HB8 b2
  rw [Q4.out]
  have xA0 : u2.cell? ⟨w.heap.size, 0, none⟩ = some (.int .i64 i) := KA_9.out.c 0 rfl
  have xA1 : u2.cell? ⟨w.heap.size, 1, none⟩ = some (.slice a l.length cap) := KA_9.out.c 1 rfl
  have xA2 : u2.cell? ⟨w.heap.size, 2, none⟩ = some (.int .i64 g) := KA_9.out.c 2 rfl
  have zA : w.heap.size < u2.heap.size := KA_9.out.2.2
  have z2A : w.heap.size < u2.heap.size + 1 := by omega
  have xD0 : u2.cell? ⟨w.heap.size + 1, 0, none⟩ = some (.int .i64 j) := KD_10.out.c 0 rfl
  have xD1 : u2.cell? ⟨w.heap.size + 1, 1, none⟩ = some (.slice a' m.length cap') := KD_10.out.c 1 rfl
  have xD2 : u2.cell? ⟨w.heap.size + 1, 2, none⟩ = some (.int .i64 g) := KD_10.out.c 2 rfl
  have zD : w.heap.size + 1 < u2.heap.size := KD_10.out.2.2
  have z2D : w.heap.size + 1 < u2.heap.size + 1 := by omega
  go_wp2_with fail
  refine (genuine_any k2 j g _ m _ (H2.out.step HB11.out)).mono ?_
  rintro e u3 ⟨rfl, b3⟩
  clear xA0 xA1 xA2 zA z2A xD0 xD1 xD2 zD z2D
  have KA_12 := Lib.hid (KA_9.out.step b3)
  clear KA_9
  have KD_13 := Lib.hid (KD_10.out.step b3)
  clear KD_10
  have HB14 := Lib.hid (keep2 b3 HB11.out)
  clear HB11 b3
  rw [Q5.out]
  have xA0 : u3.cell? ⟨w.heap.size, 0, none⟩ = some (.int .i64 i) := KA_12.out.c 0 rfl
  have xA1 : u3.cell? ⟨w.heap.size, 1, none⟩ = some (.slice a l.length cap) := KA_12.out.c 1 rfl
  have xA2 : u3.cell? ⟨w.heap.size, 2, none⟩ = some (.int .i64 g) := KA_12.out.c 2 rfl
  have zA : w.heap.size < u3.heap.size := KA_12.out.2.2
  have z2A : w.heap.size < u3.heap.size + 1 := by omega
  have xD0 : u3.cell? ⟨w.heap.size + 1, 0, none⟩ = some (.int .i64 j) := KD_13.out.c 0 rfl
  have xD1 : u3.cell? ⟨w.heap.size + 1, 1, none⟩ = some (.slice a' m.length cap') := KD_13.out.c 1 rfl
  have xD2 : u3.cell? ⟨w.heap.size + 1, 2, none⟩ = some (.int .i64 g) := KD_13.out.c 2 rfl
  have zD : w.heap.size + 1 < u3.heap.size := KD_13.out.2.2
  have z2D : w.heap.size + 1 < u3.heap.size + 1 := by omega
  go_wp2_with fail
  refine (rtags_any k1 i g _ l _ (H.out.step HB14.out) (by omega)).mono ?_
  rintro e u31 ⟨tu, tz, rfl, htg, b31⟩
  obtain ⟨zs, -, hr, hx⟩ := htg
  obtain ⟨gz, zc, rfl, -, -⟩ := hr.form (by omega)
  have HR := Lib.hid hr
  have HX := Lib.hid hx
  clear hr hx
  clear xA0 xA1 xA2 zA z2A xD0 xD1 xD2 zD z2D
  have KA_15 := Lib.hid (KA_12.out.step b31)
  clear KA_12
  have KD_16 := Lib.hid (KD_13.out.step b31)
  clear KD_13
  have HB17 := Lib.hid (keep2 b31 HB14.out)
  clear HB14 b31
  have xA0 : u31.cell? ⟨w.heap.size, 0, none⟩ = some (.int .i64 i) := KA_15.out.c 0 rfl
  have xA1 : u31.cell? ⟨w.heap.size, 1, none⟩ = some (.slice a l.length cap) := KA_15.out.c 1 rfl
  have xA2 : u31.cell? ⟨w.heap.size, 2, none⟩ = some (.int .i64 g) := KA_15.out.c 2 rfl
  have zA : w.heap.size < u31.heap.size := KA_15.out.2.2
  have z2A : w.heap.size < u31.heap.size + 1 := by omega
  have xD0 : u31.cell? ⟨w.heap.size + 1, 0, none⟩ = some (.int .i64 j) := KD_16.out.c 0 rfl
  have xD1 : u31.cell? ⟨w.heap.size + 1, 1, none⟩ = some (.slice a' m.length cap') := KD_16.out.c 1 rfl
  have xD2 : u31.cell? ⟨w.heap.size + 1, 2, none⟩ = some (.int .i64 g) := KD_16.out.c 2 rfl
  have zD : w.heap.size + 1 < u31.heap.size := KD_16.out.2.2
  have z2D : w.heap.size + 1 < u31.heap.size + 1 := by omega
  go_wp2_with fail
  refine (rtags_any k2 j g _ m _ (H2.out.step HB17.out) (by omega)).mono ?_
  rintro e u32 ⟨tv, ty, rfl, htg, b32⟩
  obtain ⟨ys, -, hr, hx⟩ := htg
  obtain ⟨gy, yc, rfl, -, -⟩ := hr.form (by omega)
  have HR2 := Lib.hid hr
  have HX2 := Lib.hid hx
  clear hr hx
  replace HR := Lib.hid (row_step HR.out b32)
  replace HX := Lib.hid (HX.out.step b32)
  clear xA0 xA1 xA2 zA z2A xD0 xD1 xD2 zD z2D
  have KA_18 := Lib.hid (KA_15.out.step b32)
  clear KA_15
  have KD_19 := Lib.hid (KD_16.out.step b32)
  clear KD_16
  have HB20 := Lib.hid (keep2 b32 HB17.out)
  clear HB17 b32
  obtain ⟨v5, w5, v6, w6, q5, q6, q7, q8, q9⟩ := two_lists HR.out HX.out HR2.out HX2.out (by omega) (by omega) (by omega)
  have hLn : l.length + 1 + (m.length + 1) = (lsL k1 i l (l.length + 1) ++ lsL k2 j m (m.length + 1)).length := by rw [List.length_append, lsL_len, lsL_len]
  have hL26 : (lsL k1 i l (l.length + 1) ++ lsL k2 j m (m.length + 1)).length ≤ 100 := by rw [← hLn]; omega
  rw [hLn] at q7
  have Q7 := Lib.hid q7
  have Q8 := Lib.hid q8
  have Q9 := Lib.hid q9
  clear q7 q8 q9 hLn HR HX HR2 HX2
  go_wp2_with (first | (at_builtin; refine wpList_app_g _ _ 45 rfl (by simp [Region.wanted, yielded]) _ _ v5 rfl rfl q5 ?_) | (at_builtin; refine wpList_app_g _ _ 45 rfl (by simp [Region.wanted, yielded]) _ _ v6 rfl rfl q6 ?_))
  refine (collide_yes _ _ _ _ _ _ Q7.out Q8.out hL26 QC.out).mono ?_
  rintro e u40 ⟨rfl, b40⟩
  have HZ := Lib.hid (keep2 b40 (keep2 Q9.out HB20.out))
  clear b40
  go_wp2
  go_ret
  exact ⟨rfl, HZ.out⟩
theorem forged_any (k1 k2 i g : Int) (sl : Value) (l : List Cv) (j g2 : Int) (sm : Value) (m : List Cv) (w : World) (h : CvsAt w sl l) (h2 : CvsAt w sm m) : Calls Try.prog 5 #[.int .i64 k1, .int .i64 k2, .agg #[.int .i64 i, sl, .int .i64 g], .agg #[.int .i64 j, sm, .int .i64 g2]] w fun e w' => e = .returned (.bool true) ∧ Below w.heap.size w w' := by
  by_cases q1 : l.length ≤ 12
  · by_cases q2 : m.length ≤ 12
    · by_cases q3 : g = g2
      · cases q4 : gnB k1 i g l
        · exact forged_gn1 k1 k2 i g sl l j g2 sm m w h h2 q1 q2 q3 q4
        · cases q5 : gnB k2 j g m
          · exact forged_gn2 k1 k2 i g sl l j g2 sm m w h h2 q1 q2 q3 q4 q5
          · by_cases q6 : k1 = k2
            · exact forged_same k1 k2 i g sl l j g2 sm m w h h2 q1 q2 q3 q4 q5 q6
            · exact forged_two k1 k2 i g sl l j g2 sm m w h h2 q1 q2 q3 q4 q5 q6
      · exact forged_tag k1 k2 i g sl l j g2 sm m w h h2 q1 q2 q3
    · exact forged_l2 k1 k2 i g sl l j g2 sm m w h h2 q1 (by omega)
  · exact forged_l1 k1 k2 i g sl l j g2 sm m w h h2 (by omega)
end Go.Proofs.Ytdifgdnndmikaaa
