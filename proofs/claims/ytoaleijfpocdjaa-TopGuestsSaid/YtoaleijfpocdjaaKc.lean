/- Capabilities: tags; a new capability; the copy of a list of caveats. -/
import Derived.Test.YtoaleijfpocdjaaKb
import Derived.Lib.SliceRun
namespace Go.Proofs.Ytoaleijfpocdjaa
open Go.RowKit

/-- The first tag, and the tag after a caveat. -/
def tg0 (key id : Int) : Int := Dg [key, 1, id]
def tgN (t : Int) (c : Cv) : Int := Dg [t, 2, c.k, c.v]
theorem firstTag_any (key id : Int) (w : World) : Calls Try.prog 40 #[.int .i64 key, .int .i64 id] w fun e w' => e = .returned (.int .i64 (tg0 key id)) ∧ Below w.heap.size w w' := by
  have HI := Lib.hid (ints_lit w [id] #[.int .i64 id] 3 rfl (by simp) 1 rfl w.heap.size rfl)
  go_enter Try.func40, Try.ntmps40
  go_wp2_with fail
  refine (tag_any key _ [id] _ HI.out (by simp) (by simp)).mono ?_
  rintro e w1 ⟨rfl, b1⟩
  have HB := Lib.hid (keep2 b1 (al _ _))
  clear b1
  go_wp2
  go_ret
  exact ⟨rfl, HB.out⟩
theorem nextTag_any (t : Int) (c : Cv) (w : World) : Calls Try.prog 39 #[.int .i64 t, .agg #[.int .i64 c.k, .int .i64 c.v]] w fun e w' => e = .returned (.int .i64 (tgN t c)) ∧ Below w.heap.size w w' := by
  obtain ⟨k, v⟩ := c
  have HI := Lib.hid (ints_lit (w.alloc (.cells #[.int .i64 k, .int .i64 v] 24)) [k, v] #[.int .i64 k, .int .i64 v] 3 rfl (by simp) 2 rfl (w.heap.size + 1) (by simp))
  have HB0 := Lib.hid (al2 (w := w) (o1 := .cells #[.int .i64 k, .int .i64 v] 24) (o2 := .cells #[.int .i64 k, .int .i64 v] 3))
  go_enter Try.func39, Try.ntmps39
  go_wp2_with fail
  refine (tag_any t _ [k, v] _ HI.out (by simp) (by simp)).mono ?_
  rintro e w1 ⟨rfl, b1⟩
  have HB := Lib.hid (keep2 b1 HB0.out)
  clear b1
  go_wp2
  go_ret
  exact ⟨rfl, HB.out⟩
/-- What 'Mint' gives. -/
def mtB (key id : Int) : Bool := inr key 0 2147483646 && inr id 0 1000000
def mtV (key id : Int) : Value := if mtB key id then .agg #[.int .i64 id, .slice none 0 0, .int .i64 (tg0 key id)] else .agg #[.int .i64 0, .slice none 0 0, .int .i64 0]
set_option maxRecDepth 100000 in
set_option maxHeartbeats 2000000 in
theorem mint_any (key id : Int) (w : World) : Calls Try.prog 15 #[.int .i64 key, .int .i64 id] w fun e w' => e = .returned (mtV key id) ∧ Below w.heap.size w w' := by
  have KR := Lib.hid (Cs.new w w.heap.size #[.int .i64 0, .slice none 0 0, .int .i64 0] 30 rfl)
  have HB0 := Lib.hid (al w (.cells #[.int .i64 0, .slice none 0 0, .int .i64 0] 30))
  cases h1 : inr key 0 2147483646
  · have HR := Lib.hid (show mtV key id = .agg #[.int .i64 0, .slice none 0 0, .int .i64 0] by unfold mtV mtB; simp [h1])
    have H1 := Lib.hid h1; clear h1
    go_enter Try.func15, Try.ntmps15
    go_wp2_with fail
    refine (within_q key 0 2147483646 _ H1.out _).mono ?_
    rintro e w' ⟨rfl, rfl⟩
    go_wp2
    exact bodyPost_ret (v := .agg #[.int .i64 0, .slice none 0 0, .int .i64 0]) (by simp [results, Try.results15, go_sem]) rfl ⟨by rw [HR.out], (by repeat (first | with_reducible exact Below.refl _ _ | with_reducible exact Below.refl _ _ | ((with_reducible refine Below.setCell ?_ ?_ _); rotate_left; focus (first | (simp; done) | (simp; omega) | omega)) | ((with_reducible refine Below.alloc ?_ ?_ _); rotate_left; focus (first | (simp; done) | (simp; omega) | omega)) | with_reducible refine Below.trans ?_ (below_drewN' _ _ _) | with_reducible refine Below.trans ?_ (below_drew _ _)))⟩
  · cases h2 : inr id 0 1000000
    · have HR := Lib.hid (show mtV key id = .agg #[.int .i64 0, .slice none 0 0, .int .i64 0] by unfold mtV mtB; simp [h1, h2])
      have H1 := Lib.hid h1; clear h1
      have H2 := Lib.hid h2; clear h2
      go_enter Try.func15, Try.ntmps15
      go_wp2_with fail
      refine (within_q key 0 2147483646 _ H1.out _).mono ?_
      rintro e w' ⟨rfl, rfl⟩
      go_wp2_with fail
      refine (within_q id 0 1000000 _ H2.out _).mono ?_
      rintro e w' ⟨rfl, rfl⟩
      go_wp2
      exact bodyPost_ret (v := .agg #[.int .i64 0, .slice none 0 0, .int .i64 0]) (by simp [results, Try.results15, go_sem]) rfl ⟨by rw [HR.out], (by repeat (first | with_reducible exact Below.refl _ _ | with_reducible exact Below.refl _ _ | ((with_reducible refine Below.setCell ?_ ?_ _); rotate_left; focus (first | (simp; done) | (simp; omega) | omega)) | ((with_reducible refine Below.alloc ?_ ?_ _); rotate_left; focus (first | (simp; done) | (simp; omega) | omega)) | with_reducible refine Below.trans ?_ (below_drewN' _ _ _) | with_reducible refine Below.trans ?_ (below_drew _ _)))⟩
    · have HR := Lib.hid (show mtV key id = .agg #[.int .i64 id, .slice none 0 0, .int .i64 (tg0 key id)] by unfold mtV mtB; simp [h1, h2])
      have H1 := Lib.hid h1; clear h1
      have H2 := Lib.hid h2; clear h2
      go_enter Try.func15, Try.ntmps15
      go_wp2_with fail
      refine (within_q key 0 2147483646 _ H1.out _).mono ?_
      rintro e w' ⟨rfl, rfl⟩
      go_wp2_with fail
      refine (within_q id 0 1000000 _ H2.out _).mono ?_
      rintro e w' ⟨rfl, rfl⟩
      go_wp2_with fail
      refine (firstTag_any key id _).mono ?_
      rintro e w1 ⟨rfl, b1⟩
      have KR1 := Lib.hid (KR.out.step b1)
      have HB1 := Lib.hid (keep2 b1 HB0.out)
      clear b1
      have y0 := KR1.out.c 0 rfl
      have y1 := KR1.out.c 1 rfl
      have y2 := KR1.out.c 2 rfl
      have z0 := KR1.out.f 0 (by simp)
      have z1 := KR1.out.f 1 (by simp)
      have z2 := KR1.out.f 2 (by simp)
      have hz : w.heap.size < w1.heap.size := KR1.out.2.2
      go_wp2
      exact bodyPost_ret (v := .agg #[.int .i64 id, .slice none 0 0, .int .i64 (tg0 key id)]) (by simp [results, Try.results15, go_sem, y0, y1, y2]) rfl ⟨by rw [HR.out], (by repeat (first | with_reducible exact HB1.out | with_reducible exact Below.refl _ _ | ((with_reducible refine Below.setCell ?_ ?_ _); rotate_left; focus (first | (simp; done) | (simp; omega) | omega)) | ((with_reducible refine Below.alloc ?_ ?_ _); rotate_left; focus (first | (simp; done) | (simp; omega) | omega)) | with_reducible refine Below.trans ?_ (below_drewN' _ _ _) | with_reducible refine Below.trans ?_ (below_drew _ _)))⟩
/-- The cells of a list of caveats. -/
def Cv.cells (x : Cv) : List Value := [.int .i64 x.k, .int .i64 x.v]
def ccs (l : List Cv) : List Value := l.flatMap Cv.cells
theorem ccs_len (l : List Cv) : (ccs l).length = l.length * 2 := by
  induction l with
  | nil => rfl
  | cons y l ih => rw [show ccs (y :: l) = y.cells ++ ccs l by simp [ccs], List.length_append, ih]; simp [Cv.cells]; omega
theorem ccs_app (l m : List Cv) : ccs (l ++ m) = ccs l ++ ccs m := by simp [ccs]
theorem ccs_one (x : Cv) : ccs [x] = [.int .i64 x.k, .int .i64 x.v] := by simp [ccs, Cv.cells]
theorem ccs_get (l : List Cv) : ∀ (i : Nat) (x : Cv), l[i]? = some x → ∀ j, j < 2 → (ccs l)[i * 2 + j]? = x.cells[j]? := by
  induction l with
  | nil => intro i x h; simp at h
  | cons y l ih =>
    intro i x h j hj
    have hs : ccs (y :: l) = y.cells ++ ccs l := by simp [ccs]
    rw [hs]
    cases i with
    | zero =>
      simp at h; subst h
      rw [List.getElem?_append_left (by simp [Cv.cells]; omega)]
      simp
    | succ i =>
      rw [List.getElem?_append_right (by simp [Cv.cells]; omega)]
      have := ih i x (by simpa using h) j hj
      rw [← this]
      congr 1
      simp [Cv.cells]; omega
theorem ccs_one_cell (l : List Cv) : ∀ u ∈ ccs l, u.oneCell' = true := by
  intro u hu
  unfold ccs at hu
  rw [List.mem_flatMap] at hu
  obtain ⟨x, -, hx⟩ := hu
  simp only [Cv.cells, List.mem_cons, List.not_mem_nil, or_false] at hx
  rcases hx with rfl | rfl <;> rfl
/-- The cells of a list lie behind its address. -/
theorem cvs_cells {w : World} {a : Option Addr} {cap : Nat} {l : List Cv} (h : CvsAt w (.slice a l.length cap) l) (ad : Addr) (ha : a = some ad) : ∀ j u, (ccs l)[j]? = some u → w.cell? (ad.add j) = some u := by
  intro j u hu
  have hj : j < l.length * 2 := by rw [← ccs_len]; exact (List.getElem?_eq_some_iff.1 hu).1
  obtain ⟨a', cap', he, -, -, hc⟩ := h
  obtain ⟨rfl, rfl⟩ : a = a' ∧ cap = cap' := by simpa using he
  obtain ⟨b', off', ha', hx⟩ := hc (by intro e; rw [e] at hj; simp at hj)
  rw [ha] at ha'
  obtain rfl : ad = ⟨b', off', none⟩ := by simpa using ha'
  have hi : j / 2 < l.length := by omega
  have h1 := ccs_get l (j / 2) _ (cv_get hi)
  obtain ⟨x0, x1⟩ := hx (j / 2) _ (cv_get hi)
  rw [Go.WideShapes.add_plain]
  have hm := h1 (j % 2) (Nat.mod_lt _ (by omega))
  rw [show j / 2 * 2 + j % 2 = j by omega, hu] at hm
  rcases Nat.mod_two_eq_zero_or_one j with e | e
  · rw [e] at hm; simp only [Cv.cells, List.getElem?_cons_zero, Option.some.injEq] at hm
    rw [hm, ← x0]; congr 2; omega
  · rw [e] at hm; simp only [Cv.cells, List.getElem?_cons_succ, List.getElem?_cons_zero, Option.some.injEq] at hm
    rw [hm, ← x1]; congr 2; omega
theorem cvs_of_row {w : World} {base n : Nat} {v : Value} {l : List Cv} (hn : n = l.length) (hl : l.length ≤ maxLen) (h : w.ownsRow base 24 2 v n (ccs l)) : CvsAt w v l := by
  subst hn
  have hc := fun g (hg : v.ownBlock = some g) => h.cells hg
  rcases h.2 with ⟨rfl, h0⟩ | ⟨g, cap, cur, rfl, -, -, hle, -⟩
  · have : l = [] := List.length_eq_zero_iff.1 h0
    subst this
    exact cvs_nil _
  · refine ⟨some ⟨g, 0, none⟩, cap, rfl, by omega, hl, fun _ => ⟨g, 0, rfl, fun i x hi => ?_⟩⟩
    have hj := fun j (hj : j < 2) u (hu : x.cells[j]? = some u) => hc g rfl (i * 2 + j) u ((ccs_get l i x hi j hj).trans hu)
    simp only [Go.WideShapes.add_plain] at hj
    exact ⟨hj 0 (by omega) _ rfl, hj 1 (by omega) _ rfl⟩
/-- A row lies as it lay, as long as nothing is stored. -/
theorem row_step {w w1 : World} {base e s : Nat} {v : Value} {n : Nat} {xs : List Value} (h : w.ownsRow base e s v n xs) (hb : Below w.heap.size w w1) : w1.ownsRow base e s v n xs := by
  refine ⟨h.1, ?_⟩
  rcases h.2 with h0 | ⟨g, cap, cur, h1, h2, h3, h4⟩
  · exact .inl h0
  · exact .inr ⟨g, cap, cur, h1, h2, (hb.block g (Array.getElem?_eq_some_iff.1 h3).1).trans h3, h4⟩
theorem row_base {w : World} {base b2 e s : Nat} {v : Value} {n : Nat} {xs : List Value} (h : w.ownsRow base e s v n xs) (hb : b2 ≤ base) : w.ownsRow b2 e s v n xs := by
  refine ⟨h.1, ?_⟩
  rcases h.2 with h0 | ⟨g, cap, cur, h1, h2, h3, h4⟩
  · exact .inl h0
  · exact .inr ⟨g, cap, cur, h1, Nat.le_trans hb h2, h3, h4⟩
theorem info26 : (Try.prog.info? 24).map (fun i => (i.zero, i.size, i.bytes)) = some (some (.agg #[.int .i64 0, .int .i64 0]), 2, 16) := by kernel_rfl
set_option maxRecDepth 100000 in
set_option maxHeartbeats 2000000 in
theorem clone_any (v : Value) (l : List Cv) (w : World) (h : CvsAt w v l) (h9 : l.length ≤ 1000) :
    Calls Try.prog 38 #[v] w fun e w' => ∃ u, e = .returned u ∧ w'.ownsRow w.heap.size 24 2 u l.length (ccs l) ∧ Below w.heap.size w w' := by
  have H := Lib.hid h
  obtain ⟨a, cap, rfl, hcp, hm, hc⟩ := h
  obtain ⟨i0, hi, hz0, hz1, hz2⟩ := info_parts info26
  have q22 : ∀ (w : World) (a : Option Addr) (n c n' c' : Nat), (binOp .eql 22 (.slice a n c) (.slice none n' c')).run Try.prog w = .ok (.bool a.isNone) w := fun w a n c n' c' => Lib.run_eql_slice_nil w _ _ a n c n' c' Try.underlying22
  cases a with
  | none =>
    have hl : l = [] := by
      cases l with
      | nil => rfl
      | cons x l => obtain ⟨b, off, e, -⟩ := hc (by simp); cases e
    subst hl
    clear H hc hm hcp h9
    go_enter Try.func38, Try.ntmps38
    go_wp2
    go_ret
    exact ⟨_, rfl, World.ownsRow_nil _ _ _ _, Below.refl _ _⟩
  | some ad =>
    have HN := Lib.hid (cvs_cells (H.out.step (al w (.cells #[] 24))) ad rfl)
    have c1 : 0 + l.length ≤ maxLen := by unfold maxLen; omega
    have c2 : (0 + l.length) * 16 ≤ 140737488355328 := by omega
    have HR := Lib.hid (show (w.alloc (.cells #[] 24)).ownsRow w.heap.size 24 2 (.slice (some ⟨w.heap.size, 0, none⟩) 0 0) 0 [] from
      ⟨rfl, .inr ⟨w.heap.size, 0, _, rfl, Nat.le_refl _, heap_alloc_new _ _, by omega, by unfold maxLen; omega, rfl, rfl⟩⟩)
    clear hc hcp hm
    go_enter Try.func38, Try.ntmps38
    go_wp2_with (at_builtin; refine wpList_append_own _ rfl _ _ 22 rfl w.heap.size 24 i0 _ 2 16 Try.underlying22 hi hz0 hz1 hz2 rfl (by decide) _ _ _ rfl HR.out ad l.length cap (ccs l) rfl (ccs_len l) HN.out (ccs_one_cell l) c1 c2 (by simp) ?_; intro v' w1 hown hgrow _; have HO := Lib.hid hown; have HG := Lib.hid hgrow; clear hown hgrow)
    have HB := Lib.hid ((al w (.cells #[] 24)).grown HG.out (by simp) (fun k e => by cases e; exact Nat.le_refl _))
    have HO2 := Lib.hid (show w1.ownsRow w.heap.size 24 2 v' l.length (ccs l) by have := HO.out; rw [Nat.zero_add] at this; exact this)
    clear HO
    go_wp2
    go_ret
    exact ⟨_, rfl, HO2.out, HB.out⟩
end Go.Proofs.Ytoaleijfpocdjaa
