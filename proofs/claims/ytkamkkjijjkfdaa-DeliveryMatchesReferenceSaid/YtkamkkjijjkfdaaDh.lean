/- Delivery: lists of orders; senders. -/
import Derived.Test.YtkamkkjijjkfdaaDc
namespace Go.Proofs.Ytkamkkjijjkfdaa
open Go.RowKit

/-- An order. -/
structure Od where
  a : Int
  b : Int
  c : Int
  d : Int
deriving DecidableEq
def zO : Od := ⟨0, 0, 0, 0⟩
def Od.cells (x : Od) : List Value := [.int .i64 x.a, .int .i64 x.b, .int .i64 x.c, .int .i64 x.d]
def ocs (l : List Od) : List Value := l.flatMap Od.cells
/-- A list of orders behind a slice. -/
def OdsAt (w : World) (v : Value) (l : List Od) : Prop :=
  ∃ a cap, v = .slice a l.length cap ∧ l.length ≤ cap ∧ l.length ≤ maxLen ∧ (l ≠ [] → ∃ b off, a = some ⟨b, off, none⟩ ∧ ∀ (i : Nat) (x : Od), l[i]? = some x →
    w.cell? ⟨b, off + i * 4, none⟩ = some (.int .i64 x.a) ∧ w.cell? ⟨b, off + i * 4 + 1, none⟩ = some (.int .i64 x.b) ∧ w.cell? ⟨b, off + i * 4 + 2, none⟩ = some (.int .i64 x.c) ∧ w.cell? ⟨b, off + i * 4 + 3, none⟩ = some (.int .i64 x.d))
theorem OdsAt.step {w w1 : World} {v : Value} {l : List Od} (h : OdsAt w v l) (hb : Below w.heap.size w w1) : OdsAt w1 v l := by
  obtain ⟨a, cap, hv, h1, hm, hc⟩ := h
  refine ⟨a, cap, hv, h1, hm, fun hl => ?_⟩
  obtain ⟨b, off, ha, hx⟩ := hc hl
  refine ⟨b, off, ha, fun i x h => ?_⟩
  obtain ⟨q0, q1, q2, q3⟩ := hx i x h
  exact ⟨keep1 hb q0, keep1 hb q1, keep1 hb q2, keep1 hb q3⟩
theorem ods_nil (w : World) : OdsAt w (.slice none 0 0) [] := ⟨none, 0, rfl, by simp, by simp, fun h => absurd rfl h⟩
theorem od_get {l : List Od} {k : Nat} (h : k < l.length) : l[k]? = some (l.getD k zO) := by simp [h]
theorem ocs_app (l m : List Od) : ocs (l ++ m) = ocs l ++ ocs m := by simp [ocs]
theorem ocs_one (x : Od) : ocs [x] = x.cells := by simp [ocs]
theorem ocs_len (l : List Od) : (ocs l).length = l.length * 4 := by
  induction l with
  | nil => rfl
  | cons y l ih =>
    have hs : ocs (y :: l) = y.cells ++ ocs l := by simp [ocs]
    rw [hs, List.length_append, ih, List.length_cons]
    simp [Od.cells]; omega
theorem ocs_get (l : List Od) : ∀ (i : Nat) (x : Od), l[i]? = some x → ∀ j, j < 4 → (ocs l)[i * 4 + j]? = x.cells[j]? := by
  induction l with
  | nil => intro i x h; simp at h
  | cons y l ih =>
    intro i x h j hj
    have hs : ocs (y :: l) = y.cells ++ ocs l := by simp [ocs]
    rw [hs]
    cases i with
    | zero =>
      simp at h; subst h
      rw [List.getElem?_append_left (by simp [Od.cells]; omega)]
      simp
    | succ i =>
      rw [List.getElem?_append_right (by simp [Od.cells]; omega)]
      have := ih i x (by simpa using h) j hj
      rw [← this]
      congr 1
      simp [Od.cells]; omega
theorem ocs_one' (l : List Od) : ∀ u ∈ ocs l, u.oneCell' = true := by
  intro u hu
  unfold ocs at hu
  obtain ⟨x, -, hx⟩ := List.mem_flatMap.1 hu
  simp [Od.cells] at hx
  rcases hx with rfl | rfl | rfl | rfl <;> rfl
theorem ods_of_row {w : World} {base n : Nat} {v : Value} {l : List Od} (hn : n = l.length) (h : w.ownsRow base 32 4 v n (ocs l)) : OdsAt w v l := by
  subst hn
  have hc := fun g (hg : v.ownBlock = some g) => h.cells hg
  rcases h.2 with ⟨rfl, h0⟩ | ⟨g, cap, cur, rfl, h1, h2, h3, h4, -⟩
  · have : l = [] := List.length_eq_zero_iff.1 h0
    subst this
    exact ods_nil _
  · refine ⟨some ⟨g, 0, none⟩, cap, rfl, h3, by omega, fun _ => ⟨g, 0, rfl, fun i x hi => ?_⟩⟩
    have hj := fun j (hj : j < 4) u (hu : x.cells[j]? = some u) => hc g rfl (i * 4 + j) u ((ocs_get l i x hi j hj).trans hu)
    simp only [Go.WideShapes.add_plain] at hj
    exact ⟨hj 0 (by omega) _ rfl, hj 1 (by omega) _ rfl, hj 2 (by omega) _ rfl, hj 3 (by omega) _ rfl⟩
theorem od_cells {w : World} {a : Option Addr} {n cap : Nat} {l : List Od} (h : OdsAt w (.slice a n cap) l) (ad : Addr) (ha : a = some ad) : ∀ j u, (ocs l)[j]? = some u → w.cell? (ad.add j) = some u := by
  intro j u hu
  obtain ⟨a', cap', he, -, -, hc⟩ := h
  obtain ⟨rfl, -, rfl⟩ : a = a' ∧ n = l.length ∧ cap = cap' := by simpa using he
  have hj : j < (ocs l).length := (List.getElem?_eq_some_iff.1 hu).1
  rw [ocs_len] at hj
  have hi : j / 4 < l.length := by omega
  obtain ⟨b', off', ha', hx⟩ := hc (by intro e; rw [e] at hi; simp at hi)
  rw [ha] at ha'
  obtain rfl : ad = ⟨b', off', none⟩ := by simpa using ha'
  rw [Go.WideShapes.add_plain]
  have hg := ocs_get l (j / 4) _ (od_get hi) (j % 4) (by omega)
  rw [show j / 4 * 4 + j % 4 = j by omega, hu] at hg
  obtain ⟨q0, q1, q2, q3⟩ := hx (j / 4) _ (od_get hi)
  have e : off' + j = off' + j / 4 * 4 + j % 4 := by omega
  rw [e]
  have h4 : j % 4 < 4 := by omega
  generalize j % 4 = m at *
  match m, h4 with
  | 0, _ => simp [Od.cells] at hg; rw [hg]; exact q0
  | 1, _ => simp [Od.cells] at hg; rw [hg]; exact q1
  | 2, _ => simp [Od.cells] at hg; rw [hg]; exact q2
  | 3, _ => simp [Od.cells] at hg; rw [hg]; exact q3
theorem od_info : (Try.prog.info? 32).map (fun i => (i.zero, i.size, i.bytes)) = some (some (.agg #[.int .i64 0, .int .i64 0, .int .i64 0, .int .i64 0]), 4, 32) := by kernel_rfl
set_option maxRecDepth 100000 in
set_option maxHeartbeats 8000000 in
theorem od_clone (v : Value) (l : List Od) (w : World) (h : OdsAt w v l) (h9 : l.length ≤ 100000) :
    Calls Try.prog 31 #[v] w fun e w' => ∃ u, e = .returned u ∧ w'.ownsRow w.heap.size 32 4 u l.length (ocs l) ∧ Below w.heap.size w w' := by
  have H := Lib.hid h
  obtain ⟨a, cap, rfl, -, hm, hc⟩ := h
  obtain ⟨i0, hi, hz0, hz1, hz2⟩ := info_parts od_info
  have q22 : ∀ (w : World) (a : Option Addr) (n c n' c' : Nat), (binOp .eql 22 (.slice a n c) (.slice none n' c')).run Try.prog w = .ok (.bool a.isNone) w := fun w a n c n' c' => Lib.run_eql_slice_nil w _ _ a n c n' c' Try.underlying22
  cases a with
  | none =>
    have hl : l = [] := by
      cases l with
      | nil => rfl
      | cons x l => obtain ⟨b, off, e, -⟩ := hc (by simp); cases e
    subst hl
    clear H hc hm h9
    go_enter Try.func31, Try.ntmps31
    go_wp2
    go_ret
    exact ⟨_, rfl, World.ownsRow_nil _ _ _ _, Below.refl _ _⟩
  | some ad =>
    have HN := Lib.hid (od_cells (H.out.step (al w (.cells #[] 32))) ad rfl)
    have c1 : 0 + l.length ≤ maxLen := by unfold maxLen; omega
    have c2 : (0 + l.length) * 32 ≤ 140737488355328 := by omega
    have HR := Lib.hid (show (w.alloc (.cells #[] 32)).ownsRow w.heap.size 32 4 (.slice (some ⟨w.heap.size, 0, none⟩) 0 0) 0 [] from
      ⟨rfl, .inr ⟨w.heap.size, 0, _, rfl, Nat.le_refl _, heap_alloc_new _ _, by omega, by unfold maxLen; omega, rfl, rfl⟩⟩)
    clear hc hm
    go_enter Try.func31, Try.ntmps31
    go_wp2_with (at_builtin; refine wpList_append_own _ rfl _ _ 22 rfl w.heap.size 32 i0 _ 4 32 Try.underlying22 hi hz0 hz1 hz2 rfl (by decide) _ _ _ rfl HR.out ad l.length cap (ocs l) rfl (ocs_len l) HN.out (ocs_one' l) c1 c2 (by simp) ?_; intro v' w1 hown hgrow _; have HO := Lib.hid hown; have HG := Lib.hid hgrow; clear hown hgrow)
    have HB := Lib.hid ((al w (.cells #[] 32)).grown HG.out (by simp) (fun k e => by cases e; exact Nat.le_refl _))
    have HO2 := Lib.hid (show w1.ownsRow w.heap.size 32 4 v' l.length (ocs l) by have := HO.out; rw [Nat.zero_add] at this; exact this)
    clear HO
    go_wp2
    go_ret
    exact ⟨_, rfl, HO2.out, HB.out⟩
/-- Senders. -/
def Od.ok (x : Od) : Bool := orB x.a x.b x.c x.d
def lst (nx : Int) (L : List Od) : Nat → Int
  | 0 => nx - 16
  | k + 1 => (L.getD k zO).a + 1
def snA (nx : Int) (L : List Od) (k : Nat) : Prop := (L.getD k zO).ok = true ∧ lst nx L k ≤ (L.getD k zO).a ∧ (L.getD k zO).a < nx
def SnP (nx : Int) (L : List Od) : Prop := (0 ≤ nx ∧ nx ≤ 1000001) ∧ ∀ k, k < L.length → snA nx L k
set_option maxRecDepth 100000 in
set_option maxHeartbeats 8000000 in
theorem isSender_any (nx : Int) (sa : Option Addr) (sc : Nat) (L : List Od) (r : Bool) (hr : r = true ↔ SnP nx L) (w : World) (h : OdsAt w (.slice sa L.length sc) L) : Calls Try.prog 29 #[.agg #[.int .i64 nx, .slice sa L.length sc]] w fun e w' => e = .returned (.bool r) ∧ Below w.heap.size w w' := by
  have HB0 := Lib.hid (al w (.cells #[.int .i64 nx, .slice sa L.length sc] 24))
  have HC0 := Lib.hid (Cs.new w w.heap.size #[.int .i64 nx, .slice sa L.length sc] 24 rfl)
  have HL0 := Lib.hid (h.step HB0.out)
  have hm : L.length ≤ maxLen := by obtain ⟨a', c', e, -, hm, -⟩ := h; simpa using hm
  unfold maxLen at hm
  have HR := Lib.hid hr
  clear h hr
  have c0 := HC0.out.c 0 rfl
  have c1 := HC0.out.c 1 rfl
  have cz := HC0.out.2.2
  cases h1 : inr nx 0 1000001
  · have H1 := Lib.hid h1
    have HE := Lib.hid (show r = false by
      rw [Bool.eq_false_iff]
      intro e
      have := (HR.out.1 e).1
      rw [inr_no] at h1
      exact h1 this)
    clear h1
    go_enter Try.func29, Try.ntmps29
    go_wp2_with fail
    refine (within2_any nx 1000001 _).mono ?_
    rintro e w' ⟨rfl, rfl⟩
    rw [H1.out]
    go_wp2
    go_ret
    exact ⟨by rw [HE.out]; rfl, HB0.out⟩
  · have H1 := Lib.hid h1
    have hnx := inr_iff.1 h1
    have HNX := Lib.hid hnx
    have w1 : wrap64 (nx - 16) = nx - 16 := IntWalk.wrap64_in _ (by omega)
    have HW1 := Lib.hid w1
    clear h1 hnx
    go_enter Try.func29, Try.ntmps29
    go_wp2_with fail
    refine (within2_any nx 1000001 _).mono ?_
    rintro e w' ⟨rfl, rfl⟩
    rw [H1.out]
    go_wp2_with fail
    obtain ⟨W, hW⟩ : ∃ z, w.alloc (.cells #[.int .i64 nx, .slice sa L.length sc] 24) = z := ⟨_, rfl⟩
    rw [hW] at HC0 HB0 HL0 ⊢
    clear hW c0 c1 cz w1
    go_loopw [3, 16] (fun lv iv wr => ∃ k : Nat, k ≤ L.length ∧ iv = .int .i64 k ∧ lv = .int .i64 (lst nx L k) ∧ Hid (∀ j, j < k → snA nx L j) ∧ Hid (Below W.heap.size W wr)) (fun _ iv _ => L.length - (intOf iv).toNat)
    case atStart => exact ⟨0, by omega, by first | rfl | trivial, by first | rfl | trivial | (rw [HW1.out]; rfl), Lib.hid (fun j h => absurd h (by omega)), Lib.hid (Below.refl _ _)⟩
    case round =>
      obtain ⟨k, hk, rfl, rfl, HN, HW⟩ := hrel
      have HC := Lib.hid (HC0.out.step HW.out)
      have c0 := HC.out.c 0 rfl
      have c1 := HC.out.c 1 rfl
      have cz := HC.out.2.2
      by_cases hlt : k < L.length
      · obtain ⟨a1, c1', hv1, -, -, hcs1⟩ := HL0.out.step HW.out
        obtain ⟨rfl, rfl⟩ : sa = a1 ∧ sc = c1' := by simpa using hv1
        obtain ⟨b1, o1, rfl, hx1⟩ := hcs1 (by intro e; rw [e] at hlt; simp at hlt)
        obtain ⟨y0, y1, y2, y3⟩ := hx1 k _ (od_get hlt)
        have yz : b1 < wr.heap.size := World.block_lt_of_cell? _ _ y0
        have t1 : (k : Int) < (L.length : Int) := by omega
        clear hcs1 hx1 hv1
        have HS := Lib.hid (show snA nx L k ↔ ((L.getD k zO).ok = true ∧ lst nx L k ≤ (L.getD k zO).a ∧ (L.getD k zO).a < nx) from Iff.rfl)
        have HNXT := Lib.hid (show lst nx L (k + 1) = (L.getD k zO).a + 1 from rfl)
        obtain ⟨x, hx⟩ : ∃ x, L.getD k zO = x := ⟨_, rfl⟩
        obtain ⟨le, hle⟩ : ∃ z, lst nx L k = z := ⟨_, rfl⟩
        rw [hx, hle] at HS
        rw [hx] at y0 y1 y2 y3 HNXT
        rw [hle]
        clear hx hle
        obtain ⟨xa, xb, xc, xd⟩ := x
        simp only at y0 y1 y2 y3
        replace HNXT := Lib.hid (show lst nx L (k + 1) = xa + 1 from HNXT.out)
        have HO := Lib.hid (Cs.new wr wr.heap.size #[.int .i64 xa, .int .i64 xb, .int .i64 xc, .int .i64 xd] 32 rfl)
        have HBo := Lib.hid (al wr (.cells #[.int .i64 xa, .int .i64 xb, .int .i64 xc, .int .i64 xd] 32))
        have o0 := HO.out.c 0 rfl
        have o1 := HO.out.c 1 rfl
        have o2 := HO.out.c 2 rfl
        have o3 := HO.out.c 3 rfl
        have oz := HO.out.2.2
        go_wp2_with fail
        refine (isOrder_any xa xb xc xd _).mono ?_
        rintro e w2 ⟨rfl, b2⟩
        rw [show (inr xa 0 1000000 && (inr xb 0 1000000000 && (inr xc 0 1199 && inr xd 0 15))) = Od.ok ⟨xa, xb, xc, xd⟩ from rfl]
        have HW2 := Lib.hid (HW.out.trans ((keep2 b2 HBo.out).mono HW.out.size))
        have HO2 := Lib.hid (HO.out.step b2)
        have HC2 := Lib.hid (HC.out.step (keep2 b2 HBo.out))
        clear b2 c0 c1 cz y0 y1 y2 y3 yz o0 o1 o2 o3 oz
        have o0 := HO2.out.c 0 rfl
        have oz := HO2.out.2.2
        have c0 := HC2.out.c 0 rfl
        have cz := HC2.out.2.2
        cases hok : Od.ok ⟨xa, xb, xc, xd⟩
        · have HE := Lib.hid (show r = false by
            rw [Bool.eq_false_iff]
            intro e
            have := (HS.out.1 ((HR.out.1 e).2 k hlt)).1
            rw [hok] at this; cases this)
          clear HN HS hok
          go_wp2
          go_ret
          exact ⟨by rw [HE.out]; rfl, keep2 HW2.out HB0.out⟩
        · have HAB := Lib.hid (show 0 ≤ xa ∧ xa ≤ 1000000 from (orB_iff hok).1)
          by_cases q1 : xa < le
          · have HE := Lib.hid (show r = false by
              rw [Bool.eq_false_iff]
              intro e
              have := (HS.out.1 ((HR.out.1 e).2 k hlt)).2.1
              exact absurd q1 (by show ¬ xa < le; have h9 : le ≤ xa := this; omega))
            have d1 : decide (xa < le) = true := decide_eq_true q1
            clear HN HS hok
            go_wp2
            go_ret
            exact ⟨by rw [HE.out]; rfl, keep2 HW2.out HB0.out⟩
          · have d1 : decide (xa < le) = false := decide_eq_false q1
            by_cases q2 : nx ≤ xa
            · have HE := Lib.hid (show r = false by
                rw [Bool.eq_false_iff]
                intro e
                have := (HS.out.1 ((HR.out.1 e).2 k hlt)).2.2
                exact absurd q2 (by have h9 : xa < nx := this; omega))
              have d2 : decide (xa ≥ nx) = true := by simpa using q2
              have d3 : decide (nx ≤ xa) = true := decide_eq_true q2
              clear HN HS hok
              go_wp2
              go_ret
              exact ⟨by rw [HE.out]; rfl, keep2 HW2.out HB0.out⟩
            · have d2 : decide (xa ≥ nx) = false := by simpa using q2
              have d3 : decide (nx ≤ xa) = false := decide_eq_false q2
              have HN2 := Lib.hid (show ∀ j, j < k + 1 → snA nx L j from fun j h => by
                by_cases e : j = k
                · subst e; exact HS.out.2 ⟨hok, by show le ≤ xa; omega, by show xa < nx; omega⟩
                · exact HN.out j (by omega))
              have ww2 : wrap64 (xa + 1) = xa + 1 := IntWalk.wrap64_in _ (by have := HAB.out; omega)
              clear HN HS hok
              go_wp2
              go_roundw
              case rel => exact ⟨k + 1, hlt, by go_num, by rw [HNXT.out, ww2], HN2, HW2⟩
              case measure => simp [intOf]; omega
      · have HE := Lib.hid (show r = true from HR.out.2 ⟨HNX.out, fun j hj => HN.out j (by omega)⟩)
        clear HN
        go_wp2
        go_ret
        exact ⟨by rw [HE.out]; rfl, keep2 HW.out HB0.out⟩
end Go.Proofs.Ytkamkkjijjkfdaa
