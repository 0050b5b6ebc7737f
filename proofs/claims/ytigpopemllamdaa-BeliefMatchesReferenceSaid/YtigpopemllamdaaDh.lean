/- Delivery: lists of orders; senders. -/
import Derived.Test.YtigpopemllamdaaVb
import Derived.Test.YtigpopemllamdaaDa
namespace Go.Proofs.Ytigpopemllamdaa
open Go.RowKit

/-- An order. -/
structure Od where
  a : Int
  b : Int
  c : Int
  d : Int
deriving DecidableEq
def zO : Od := ⟨0, 0, 0, 0⟩
def Od.cells (x : Od) : List Value := [.int .i64 x.a, .int .i64 x.b, .int .i64 x.c, .int .i64 x.d]
def ocs (l : List Od) : List Value := l.flatMap Od.cells
/-- A list of orders behind a slice. -/
def OdsAt (w : World) (v : Value) (l : List Od) : Prop :=
  ∃ a cap, v = .slice a l.length cap ∧ l.length ≤ cap ∧ l.length ≤ maxLen ∧ (l ≠ [] → ∃ b off, a = some ⟨b, off, none⟩ ∧ ∀ (i : Nat) (x : Od), l[i]? = some x →
    w.cell? ⟨b, off + i * 4, none⟩ = some (.int .i64 x.a) ∧ w.cell? ⟨b, off + i * 4 + 1, none⟩ = some (.int .i64 x.b) ∧ w.cell? ⟨b, off + i * 4 + 2, none⟩ = some (.int .i64 x.c) ∧ w.cell? ⟨b, off + i * 4 + 3, none⟩ = some (.int .i64 x.d))
theorem OdsAt.step {w w1 : World} {v : Value} {l : List Od} (h : OdsAt w v l) (hb : Below w.heap.size w w1) : OdsAt w1 v l := by
  obtain ⟨a, cap, hv, h1, hm, hc⟩ := h
  refine ⟨a, cap, hv, h1, hm, fun hl => ?_⟩
  obtain ⟨b, off, ha, hx⟩ := hc hl
  refine ⟨b, off, ha, fun i x h => ?_⟩
  obtain ⟨q0, q1, q2, q3⟩ := hx i x h
  exact ⟨keep1 hb q0, keep1 hb q1, keep1 hb q2, keep1 hb q3⟩
theorem ods_nil (w : World) : OdsAt w (.slice none 0 0) [] := ⟨none, 0, rfl, by simp, by simp, fun h => absurd rfl h⟩
theorem od_get {l : List Od} {k : Nat} (h : k < l.length) : l[k]? = some (l.getD k zO) := by simp [h]
theorem ocs_app (l m : List Od) : ocs (l ++ m) = ocs l ++ ocs m := by simp [ocs]
theorem ocs_one (x : Od) : ocs [x] = x.cells := by simp [ocs]
theorem ocs_len (l : List Od) : (ocs l).length = l.length * 4 := by
  induction l with
  | nil => rfl
  | cons y l ih =>
    have hs : ocs (y :: l) = y.cells ++ ocs l := by simp [ocs]
    rw [hs, List.length_append, ih, List.length_cons]
    simp [Od.cells]; omega
theorem ocs_get (l : List Od) : ∀ (i : Nat) (x : Od), l[i]? = some x → ∀ j, j < 4 → (ocs l)[i * 4 + j]? = x.cells[j]? := by
  induction l with
  | nil => intro i x h; simp at h
  | cons y l ih =>
    intro i x h j hj
    have hs : ocs (y :: l) = y.cells ++ ocs l := by simp [ocs]
    rw [hs]
    cases i with
    | zero =>
      simp at h; subst h
      rw [List.getElem?_append_left (by simp [Od.cells]; omega)]
      simp
    | succ i =>
      rw [List.getElem?_append_right (by simp [Od.cells]; omega)]
      have := ih i x (by simpa using h) j hj
      rw [← this]
      congr 1
      simp [Od.cells]; omega
theorem ocs_one' (l : List Od) : ∀ u ∈ ocs l, u.oneCell' = true := by
  intro u hu
  unfold ocs at hu
  obtain ⟨x, -, hx⟩ := List.mem_flatMap.1 hu
  simp [Od.cells] at hx
  rcases hx with rfl | rfl | rfl | rfl <;> rfl
theorem ods_of_row {w : World} {base n : Nat} {v : Value} {l : List Od} (hn : n = l.length) (h : w.ownsRow base 27 4 v n (ocs l)) : OdsAt w v l := by
  subst hn
  have hc := fun g (hg : v.ownBlock = some g) => h.cells hg
  rcases h.2 with ⟨rfl, h0⟩ | ⟨g, cap, cur, rfl, h1, h2, h3, h4, -⟩
  · have : l = [] := List.length_eq_zero_iff.1 h0
    subst this
    exact ods_nil _
  · refine ⟨some ⟨g, 0, none⟩, cap, rfl, h3, by omega, fun _ => ⟨g, 0, rfl, fun i x hi => ?_⟩⟩
    have hj := fun j (hj : j < 4) u (hu : x.cells[j]? = some u) => hc g rfl (i * 4 + j) u ((ocs_get l i x hi j hj).trans hu)
    simp only [Go.WideShapes.add_plain] at hj
    exact ⟨hj 0 (by omega) _ rfl, hj 1 (by omega) _ rfl, hj 2 (by omega) _ rfl, hj 3 (by omega) _ rfl⟩
theorem od_cells {w : World} {a : Option Addr} {n cap : Nat} {l : List Od} (h : OdsAt w (.slice a n cap) l) (ad : Addr) (ha : a = some ad) : ∀ j u, (ocs l)[j]? = some u → w.cell? (ad.add j) = some u := by
  intro j u hu
  obtain ⟨a', cap', he, -, -, hc⟩ := h
  obtain ⟨rfl, -, rfl⟩ : a = a' ∧ n = l.length ∧ cap = cap' := by simpa using he
  have hj : j < (ocs l).length := (List.getElem?_eq_some_iff.1 hu).1
  rw [ocs_len] at hj
  have hi : j / 4 < l.length := by omega
  obtain ⟨b', off', ha', hx⟩ := hc (by intro e; rw [e] at hi; simp at hi)
  rw [ha] at ha'
  obtain rfl : ad = ⟨b', off', none⟩ := by simpa using ha'
  rw [Go.WideShapes.add_plain]
  have hg := ocs_get l (j / 4) _ (od_get hi) (j % 4) (by omega)
  rw [show j / 4 * 4 + j % 4 = j by omega, hu] at hg
  obtain ⟨q0, q1, q2, q3⟩ := hx (j / 4) _ (od_get hi)
  have e : off' + j = off' + j / 4 * 4 + j % 4 := by omega
  rw [e]
  have h4 : j % 4 < 4 := by omega
  generalize j % 4 = m at *
  match m, h4 with
  | 0, _ => simp [Od.cells] at hg; rw [hg]; exact q0
  | 1, _ => simp [Od.cells] at hg; rw [hg]; exact q1
  | 2, _ => simp [Od.cells] at hg; rw [hg]; exact q2
  | 3, _ => simp [Od.cells] at hg; rw [hg]; exact q3
theorem od_info : (Try.prog.info? 27).map (fun i => (i.zero, i.size, i.bytes)) = some (some (.agg #[.int .i64 0, .int .i64 0, .int .i64 0, .int .i64 0]), 4, 32) := by kernel_rfl
set_option maxRecDepth 100000 in
set_option maxHeartbeats 8000000 in
theorem od_clone (v : Value) (l : List Od) (w : World) (h : OdsAt w v l) (h9 : l.length ≤ 100000) :
    Calls Try.prog 57 #[v] w fun e w' => ∃ u, e = .returned u ∧ w'.ownsRow w.heap.size 27 4 u l.length (ocs l) ∧ Below w.heap.size w w' := by
  have H := Lib.hid h
  obtain ⟨a, cap, rfl, -, hm, hc⟩ := h
  obtain ⟨i0, hi, hz0, hz1, hz2⟩ := info_parts od_info
  have q22 : ∀ (w : World) (a : Option Addr) (n c n' c' : Nat), (binOp .eql 23 (.slice a n c) (.slice none n' c')).run Try.prog w = .ok (.bool a.isNone) w := fun w a n c n' c' => Lib.run_eql_slice_nil w _ _ a n c n' c' Try.underlying23
  cases a with
  | none =>
    have hl : l = [] := by
      cases l with
      | nil => rfl
      | cons x l => obtain ⟨b, off, e, -⟩ := hc (by simp); cases e
    subst hl
    clear H hc hm h9
    go_enter Try.func57, Try.ntmps57
    go_wp2
    go_ret
    exact ⟨_, rfl, World.ownsRow_nil _ _ _ _, Below.refl _ _⟩
  | some ad =>
    have HN := Lib.hid (od_cells (H.out.step (al w (.cells #[] 27))) ad rfl)
    have c1 : 0 + l.length ≤ maxLen := by unfold maxLen; omega
    have c2 : (0 + l.length) * 32 ≤ 140737488355328 := by omega
    have HR := Lib.hid (show (w.alloc (.cells #[] 27)).ownsRow w.heap.size 27 4 (.slice (some ⟨w.heap.size, 0, none⟩) 0 0) 0 [] from
      ⟨rfl, .inr ⟨w.heap.size, 0, _, rfl, Nat.le_refl _, heap_alloc_new _ _, by omega, by unfold maxLen; omega, rfl, rfl⟩⟩)
    clear hc hm
    go_enter Try.func57, Try.ntmps57
    go_wp2_with (at_builtin; refine wpList_append_own _ rfl _ _ 23 rfl w.heap.size 27 i0 _ 4 32 Try.underlying23 hi hz0 hz1 hz2 rfl (by decide) _ _ _ rfl HR.out ad l.length cap (ocs l) rfl (ocs_len l) HN.out (ocs_one' l) c1 c2 (by simp) ?_; intro v' w1 hown hgrow _; have HO := Lib.hid hown; have HG := Lib.hid hgrow; clear hown hgrow)
    have HB := Lib.hid ((al w (.cells #[] 27)).grown HG.out (by simp) (fun k e => by cases e; exact Nat.le_refl _))
    have HO2 := Lib.hid (show w1.ownsRow w.heap.size 27 4 v' l.length (ocs l) by have := HO.out; rw [Nat.zero_add] at this; exact this)
    clear HO
    go_wp2
    go_ret
    exact ⟨_, rfl, HO2.out, HB.out⟩
end Go.Proofs.Ytigpopemllamdaa
