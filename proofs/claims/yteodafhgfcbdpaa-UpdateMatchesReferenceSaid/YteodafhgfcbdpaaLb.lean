import Derived.Deep.CutRange
import Derived.Deep.RegionLaw
import Derived.Lib.SliceRun
import Derived.Test.YteodafhgfcbdpaaGg
import Derived.BigQuiet
namespace Go.Proofs.Yteodafhgfcbdpaa
open Go.RowKit

theorem in_cells {w : World} {a : Option Addr} {cap : Nat} {l : List Int} (h : IntsAt w (.slice a l.length cap) l) (ad : Addr) (ha : a = some ad) : ∀ j u, (l.map (Value.int .i64))[j]? = some u → w.cell? (ad.add j) = some u := by
  intro j u hu
  obtain ⟨a', cap', he, -, hc⟩ := h
  obtain ⟨rfl, rfl⟩ : a = a' ∧ cap = cap' := by simpa using he
  rw [List.getElem?_map] at hu
  cases hj : l[j]? with
  | none => rw [hj] at hu; cases hu
  | some x =>
    rw [hj] at hu
    obtain ⟨b', off', ha', hx⟩ := hc (by intro e; rw [e] at hj; cases hj)
    rw [ha] at ha'
    obtain rfl : ad = ⟨b', off', none⟩ := by simpa using ha'
    rw [Go.WideShapes.add_plain, hx j x hj]
    exact hu
theorem in_one (l : List Int) : ∀ u ∈ l.map (Value.int .i64), u.oneCell' = true := by
  intro u hu
  rw [List.mem_map] at hu
  obtain ⟨x, -, rfl⟩ := hu
  rfl
set_option maxRecDepth 100000 in
set_option maxHeartbeats 2000000 in
theorem in_clone (v : Value) (l : List Int) (w : World) (h : IntsAt w v l) (h9 : l.length ≤ 100000) :
    Calls Try.prog 36 #[v] w fun e w' => ∃ u, e = .returned u ∧ w'.ownsRow w.heap.size 3 1 u l.length (l.map (Value.int .i64)) ∧ Below w.heap.size w w' := by
  have H := Lib.hid h
  obtain ⟨a, cap, rfl, hm, hc⟩ := h
  obtain ⟨i0, hi, hz0, hz1, hz2⟩ := info_parts infoInt
  have q22 : ∀ (w : World) (a : Option Addr) (n c n' c' : Nat), (binOp .eql 22 (.slice a n c) (.slice none n' c')).run Try.prog w = .ok (.bool a.isNone) w := fun w a n c n' c' => Lib.run_eql_slice_nil w _ _ a n c n' c' Try.underlying22
  cases a with
  | none =>
    have hl : l = [] := by
      cases l with
      | nil => rfl
      | cons x l => obtain ⟨b, off, e, -⟩ := hc (by simp); cases e
    subst hl
    clear H hc hm h9
    go_enter Try.func36, Try.ntmps36
    go_wp2
    go_ret
    exact ⟨_, rfl, World.ownsRow_nil _ _ _ _, Below.refl _ _⟩
  | some ad =>
    have HN := Lib.hid (in_cells (H.out.step (al w (.cells #[] 3))) ad rfl)
    have c1 : 0 + l.length ≤ maxLen := by unfold maxLen; omega
    have c2 : (0 + l.length) * 8 ≤ 140737488355328 := by omega
    have HR := Lib.hid (show (w.alloc (.cells #[] 3)).ownsRow w.heap.size 3 1 (.slice (some ⟨w.heap.size, 0, none⟩) 0 0) 0 [] from
      ⟨rfl, .inr ⟨w.heap.size, 0, _, rfl, Nat.le_refl _, heap_alloc_new _ _, by omega, by unfold maxLen; omega, rfl, rfl⟩⟩)
    clear hc hm
    go_enter Try.func36, Try.ntmps36
    go_wp2_with (at_builtin; refine wpList_append_own _ rfl _ _ 22 rfl w.heap.size 3 i0 _ 1 8 Try.underlying22 hi hz0 hz1 hz2 rfl (by decide) _ _ _ rfl HR.out ad l.length cap (l.map (Value.int .i64)) rfl (by simp) HN.out (in_one l) c1 c2 (by simp) ?_; intro v' w1 hown hgrow _; have HO := Lib.hid hown; have HG := Lib.hid hgrow; clear hown hgrow)
    have HB := Lib.hid ((al w (.cells #[] 3)).grown HG.out (by simp) (fun k e => by cases e; exact Nat.le_refl _))
    have HO2 := Lib.hid (show w1.ownsRow w.heap.size 3 1 v' l.length (l.map (Value.int .i64)) by have := HO.out; rw [Nat.zero_add] at this; exact this)
    clear HO
    go_wp2
    go_ret
    exact ⟨_, rfl, HO2.out, HB.out⟩
/-- Lists of numbers, each in a block of its own, in a slice of one's own. -/
def ListsR (n0 : Nat) (Ls : List (List Int)) (lv : Value) (W : World) : Prop :=
  ∃ xs : List Value, W.ownsRow n0 22 1 lv Ls.length xs ∧ ∀ (i : Nat) (x : List Int), Ls[i]? = some x → ∃ u, xs[i]? = some u ∧ u.oneCell' = true ∧ W.ownsRow n0 3 1 u x.length (x.map (Value.int .i64))
theorem ListsR.nil (n0 : Nat) (W : World) : ListsR n0 [] (.slice none 0 0) W := ⟨[], World.ownsRow_nil _ _ _ _, fun i x h => by simp at h⟩
theorem ListsR.step {n0 : Nat} {Ls : List (List Int)} {lv : Value} {W W' : World} (h : ListsR n0 Ls lv W) (hb : Below W.heap.size W W') : ListsR n0 Ls lv W' := by
  obtain ⟨xs, h1, h2⟩ := h
  refine ⟨xs, row_step h1 hb, fun i x hi => ?_⟩
  obtain ⟨u, e1, e2, e3⟩ := h2 i x hi
  exact ⟨u, e1, e2, row_step e3 hb⟩
theorem row_type {w : World} {b1 b2 e1 e2 s1 s2 n1 n2 k : Nat} {v1 v2 : Value} {x1 x2 : List Value} (h1 : w.ownsRow b1 e1 s1 v1 n1 x1) (h2 : w.ownsRow b2 e2 s2 v2 n2 x2) (he : e1 ≠ e2) (hk : v1.ownBlock = some k) : v2.ownBlock ≠ some k := fun hk2 => by
  rcases h1.2 with ⟨e, -⟩ | ⟨g, cp, cur, e, -, p1, -⟩
  · rw [e] at hk; cases hk
  · rcases h2.2 with ⟨f, -⟩ | ⟨g', cp', cur', f, -, p2, -⟩
    · rw [f] at hk2; cases hk2
    · rw [e] at hk; rw [f] at hk2
      cases hk; cases hk2
      rw [p1] at p2
      simp at p2
      exact he p2.2
theorem row_grown {w w' : World} {base e s n : Nat} {v : Value} {xs : List Value} {row : Option Nat} (h : w.ownsRow base e s v n xs) (hg : w.grownBy w' row) (hne : ∀ k, v.ownBlock = some k → row ≠ some k) : w'.ownsRow base e s v n xs := by
  refine ⟨h.1, ?_⟩
  rcases h.2 with h0 | ⟨g, cap, cur, h1, h2, h3, h4⟩
  · exact .inl h0
  · exact .inr ⟨g, cap, cur, h1, h2, (hg.block g (Array.getElem?_eq_some_iff.1 h3).1 (fun e => hne g (by rw [h1]; rfl) e.symm)).trans h3, h4⟩
theorem ListsR.rows {n0 : Nat} {Ls : List (List Int)} {lv : Value} {W : World} (h : ListsR n0 Ls lv W) (hm : Ls.length ≤ 100000) : RowsAt W lv Ls := by
  obtain ⟨xs, h1, h2⟩ := h
  obtain ⟨a, c, rfl⟩ := row_slice h1
  refine ⟨a, c, rfl, by unfold maxLen; omega, fun hl => ?_⟩
  rcases h1.2 with ⟨-, e⟩ | ⟨g, cap, cur, e, -, -⟩
  · exact absurd (List.length_eq_zero_iff.1 e) hl
  · obtain ⟨rfl, rfl⟩ : a = some ⟨g, 0, none⟩ ∧ c = cap := by simpa using e
    refine ⟨g, 0, rfl, fun i x hi => ?_⟩
    obtain ⟨u, e1, -, e3⟩ := h2 i x hi
    have hc := h1.cells (g := g) rfl i u e1
    rw [Go.WideShapes.add_plain] at hc
    exact ⟨u, hc, ints_of_row e3⟩
theorem infoSl : (Try.prog.info? 22).map (fun i => (i.zero, i.size, i.bytes)) = some (some (.slice none 0 0), 1, 24) := by kernel_rfl
theorem ints_apart {W W' : World} {v : Value} {l : List Int} {row : Option Nat} (h : IntsAt W v l) (hg : W.grownBy W' row) (hne : l ≠ [] → ∀ b off n c, v = .slice (some ⟨b, off, none⟩) n c → row ≠ some b) : IntsAt W' v l := by
  obtain ⟨a, cap, rfl, hm, hc⟩ := h
  refine ⟨a, cap, rfl, hm, fun hl => ?_⟩
  obtain ⟨b, off, rfl, hx⟩ := hc hl
  refine ⟨b, off, rfl, fun i y h => ?_⟩
  have h1 := hx i y h
  obtain ⟨o, ho, -⟩ := cells_of h1
  exact (World.cell?_of_block (a := ⟨b, off + i, none⟩) (hg.block b (Array.getElem?_eq_some_iff.1 ho).1 (fun e => hne hl b off _ _ rfl e.symm))).trans h1
theorem ints_away {W : World} {v : Value} {l : List Int} {B : Nat} (h : IntsAt W v l) (hne : l ≠ [] → ∀ b off n c, v = .slice (some ⟨b, off, none⟩) n c → b ≠ B) (j : Nat) (u : Value) : IntsAt (W.setCell ⟨B, j, none⟩ u) v l := by
  obtain ⟨a, cap, rfl, hm, hc⟩ := h
  refine ⟨a, cap, rfl, hm, fun hl => ?_⟩
  obtain ⟨b, off, rfl, hx⟩ := hc hl
  exact ⟨b, off, rfl, fun i y h => (World.cell?_of_block (a := ⟨b, off + i, none⟩) (Below.heap_setCell W ⟨B, j, none⟩ u b (hne hl b off _ _ rfl))).trans (hx i y h)⟩
/-- One more list behind the others. -/
theorem ListsR.snoc {n0 : Nat} {Ls : List (List Int)} {l : List Int} {lv lv' u : Value} {xs : List Value} {W W' : World} (h : ∀ (i : Nat) (x : List Int), Ls[i]? = some x → ∃ u, xs[i]? = some u ∧ u.oneCell' = true ∧ W.ownsRow n0 3 1 u x.length (x.map (Value.int .i64))) (hl : xs.length = Ls.length) (hown : W.ownsRow n0 22 1 lv Ls.length xs)
    (hu : W.ownsRow n0 3 1 u l.length (l.map (Value.int .i64))) (h1 : u.oneCell' = true) (hgrow : W.grownBy W' lv.ownBlock) (hown' : W'.ownsRow n0 22 1 lv' (Ls.length + 1) (xs ++ [u])) : ListsR n0 (Ls ++ [l]) lv' W' := by
  have ap : ∀ {y : Value} {x : List Int}, W.ownsRow n0 3 1 y x.length (x.map (Value.int .i64)) → W'.ownsRow n0 3 1 y x.length (x.map (Value.int .i64)) := fun hy => row_grown hy hgrow (fun k e => row_type hy hown (by decide) e)
  refine ⟨xs ++ [u], by rw [List.length_append]; exact hown', fun i x hi => ?_⟩
  by_cases hlt : i < Ls.length
  · rw [List.getElem?_append_left hlt] at hi
    obtain ⟨y, e1, e2, e3⟩ := h i x hi
    exact ⟨y, by rw [List.getElem?_append_left (by omega)]; exact e1, e2, ap e3⟩
  · have hi2 : i = Ls.length := by
      have := (List.getElem?_eq_some_iff.1 hi).1
      rw [List.length_append] at this
      simp at this
      omega
    subst hi2
    have hx : l = x := by simpa using hi
    subst hx
    exact ⟨u, by rw [← hl]; simp, h1, ap hu⟩
theorem ListsR.set {n0 B : Nat} {Ls : List (List Int)} {lv : Value} {W : World} (h : ListsR n0 Ls lv W) (hB : B < n0) (u : Value) : ListsR n0 Ls lv (W.setCell ⟨B, 0, none⟩ u) := by
  obtain ⟨xs, h1, h2⟩ := h
  refine ⟨xs, ownsRow_setCell_below h1 (a := ⟨B, 0, none⟩) hB u, fun i x hi => ?_⟩
  obtain ⟨y, e1, e2, e3⟩ := h2 i x hi
  exact ⟨y, e1, e2, ownsRow_setCell_below e3 (a := ⟨B, 0, none⟩) hB u⟩
theorem row_base {w : World} {base b2 e s : Nat} {v : Value} {n : Nat} {xs : List Value} (h : w.ownsRow base e s v n xs) (hb : b2 ≤ base) : w.ownsRow b2 e s v n xs := by
  refine ⟨h.1, ?_⟩
  rcases h.2 with h0 | ⟨g, cap, cur, h1, h2, h3, h4⟩
  · exact .inl h0
  · exact .inr ⟨g, cap, cur, h1, Nat.le_trans hb h2, h3, h4⟩
theorem Cs.newB {n0 : Nat} {w0 w : World} (_ : Below n0 w0 w) (n : Nat) (vs : Array Value) (t : TypeId) (hn : n = w.heap.size) : Cs (w.alloc (.cells vs t)) n vs := Cs.new w n vs t hn
theorem Cs.low {w w1 : World} {n N : Nat} {vs : Array Value} (h : Cs w n vs) (hb : Below N w w1) (hn : n < N) : Cs w1 n vs :=
  ⟨fun j hj => (hb.cell hn).trans (h.1 j hj), fun j hj => (hb.frozen hn).trans (h.2.1 j hj), Nat.lt_of_lt_of_le h.2.2 hb.size⟩
set_option maxRecDepth 100000 in
set_option maxHeartbeats 4000000 in
theorem note_any (v : Value) (l : List Int) (B : Nat) (lv : Value) (Ls : List (List Int)) (w : World) (h : IntsAt w v l) (h9 : l.length ≤ 100000) (hL : ListsR (B + 1) Ls lv w) (h99 : Ls.length ≤ 1000) (hC : Cs w B #[lv]) (hsz : B < w.heap.size)
    (ha : l ≠ [] → ∀ b off n c, v = .slice (some ⟨b, off, none⟩) n c → b ≠ B ∧ lv.ownBlock ≠ some b) :
    Calls Try.prog 61 #[v, .pointer (some ⟨B, 0, none⟩)] w fun e w' => e = .returned (.int .i64 (Dg l)) ∧ (∃ lv', Cs w' B #[lv'] ∧ ListsR (B + 1) (Ls ++ [l]) lv' w') ∧ Below B w w' := by
  have H := Lib.hid h
  have HL := Lib.hid hL
  have HC := Lib.hid hC
  have HA := Lib.hid ha
  obtain ⟨a, cap, rfl, -, -⟩ := h
  obtain ⟨xs, hown, hxs⟩ := hL
  obtain ⟨la, lc, rfl⟩ := row_slice hown
  have HO := Lib.hid hown
  have HX := Lib.hid hxs
  obtain ⟨i0, hi, hz0, hz1, hz2⟩ := info_parts infoSl
  have c0 : w.cell? ⟨B, 0, none⟩ = some (.slice la Ls.length lc) := hC.c 0 rfl
  clear hC ha hown hxs
  go_enter Try.func61, Try.ntmps61
  go_upto_region 1 with fail
  have HQ := Lib.hid (show ∀ w1 u, Below w.heap.size w w1 → w1.ownsRow w.heap.size 3 1 u l.length (l.map (Value.int .i64)) → True from fun _ _ _ _ => trivial)
  go_cut [] from 4 to 10 (fun wc => (∃ lv', Cs wc B #[lv'] ∧ ListsR (B + 1) (Ls ++ [l]) lv' wc) ∧ IntsAt wc (.slice a l.length cap) l ∧ Below B w wc)
  case first =>
    have hle : B + 1 ≤ w.heap.size := hsz
    have k1 : Ls.length + 1 ≤ maxLen := by unfold maxLen; omega
    have k2 : (Ls.length + 1) * 24 ≤ 140737488355328 := by omega
    go_region_law (first | (go_simp; go_at_call 36; refine (in_clone _ l _ (H.out.step (below_drew _ _)) h9).mono ?_; rintro e w3 ⟨u, rfl, hu, b3⟩; obtain ⟨ua, uc, rfl⟩ := row_slice hu; have HU := Lib.hid hu; have HB3 := Lib.hid (show Below w.heap.size w w3 from (below_drew _ _).trans b3); have HB4 := Lib.hid (HB3.out.alloc HB3.out.size (.cells #[.slice ua l.length uc] 22)); have HC4 := Lib.hid (Cs.new w3 w3.heap.size #[.slice ua l.length uc] 22 rfl); have c1 : w3.cell? ⟨B, 0, none⟩ = some (.slice la Ls.length lc) := (HC.out.step HB3.out).c 0 rfl; have c2 : (w3.alloc (.cells #[.slice ua l.length uc] 22)).cell? ⟨B, 0, none⟩ = some (.slice la Ls.length lc) := (HC.out.step HB4.out).c 0 rfl; have k3 := Nat.le_trans hle HB4.out.size; clear b3 hu) | (refine step_append_lies _ rfl _ _ 25 rfl (B + 1) 22 i0 (.slice none 0 0) 1 24 Try.underlying25 hi hz0 hz1 hz2 rfl (by decide) _ _ _ rfl (row_step HO.out HB4.out) ⟨w3.heap.size, 0, none⟩ 1 1 [.slice ua l.length uc] rfl rfl (one_at HC4.out) (by simp [Value.oneCell']) (by decide) k1 k2 k3 _ rfl ?_; intro g' cap' w5 hown' hgrow _ _; have HN := Lib.hid hown'; have HG := Lib.hid hgrow; have HB5 := Lib.hid ((HB4.out.mono hle).grown hgrow k3 (fun k e => row_own (row_step HO.out HB4.out) e)); have HC5 := Lib.hid (HC.out.low HB5.out (Nat.lt_succ_self _)); have c5 := HC5.out.c 0 rfl; have f5 := HC5.out.f 0 (by simp); have z5 := HC5.out.2.2; have HLN := Lib.hid (ListsR.set (ListsR.snoc (W := w3.alloc (.cells #[.slice ua l.length uc] 22)) (l := l) (u := .slice ua l.length uc) (fun i x hi => by obtain ⟨y, e1, e2, e3⟩ := HX.out i x hi; exact ⟨y, e1, e2, row_step e3 HB4.out⟩) (by have := HO.out.1; omega) (row_step HO.out HB4.out) (row_base (row_step HU.out (al _ _)) hle) (by simp [Value.oneCell']) hgrow hown') (Nat.lt_succ_self _) (.slice (some ⟨g', 0, none⟩) (Ls.length + 1) cap')); have HI5 := Lib.hid (ints_away (ints_apart (H.out.step HB4.out) hgrow (fun hl b off n c e => (HA.out hl b off n c e).2)) (fun hl b off n c e => (HA.out hl b off n c e).1) 0 (.slice (some ⟨g', 0, none⟩) (Ls.length + 1) cap')); have HBF := Lib.hid ((HB5.out.mono (Nat.le_succ _)).setCell (p := ⟨B, 0, none⟩) (Nat.le_refl _) (.slice (some ⟨g', 0, none⟩) (Ls.length + 1) cap')); have HCF := Lib.hid (HC5.out.set 0 (by simp) (.slice (some ⟨g', 0, none⟩) (Ls.length + 1) cap') (vs' := #[.slice (some ⟨g', 0, none⟩) (Ls.length + 1) cap']) rfl); clear hown' hgrow))
    all_goals go_wp2
    all_goals go_meet
    all_goals exact ⟨⟨_, HCF.out, HLN.out⟩, HI5.out, HBF.out⟩
  case rest =>
    obtain ⟨⟨lv', hc, hl⟩, hi5, hb⟩ := hcut
    have HI5 := Lib.hid hi5
    clear hi5
    go_wp2_with fail
    refine (digest_any _ l _ HI5.out).mono ?_
    rintro e w7 ⟨rfl, rfl⟩
    go_wp2
    go_ret
    exact ⟨rfl, ⟨lv', hc, hl⟩, hb⟩
open Go.RowKit

def noEl (x : Int) : Bool := decide (x < -1) || decide (2147483647 ≤ x)
theorem noEl_any (x : Int) (w : World) : Calls Try.prog 60 #[.int .i64 x] w fun e w' => e = .returned (.bool (noEl x)) ∧ w = w' := by
  by_cases h1 : x < -1
  · have HR := Lib.hid (show noEl x = true by unfold noEl; simp [h1])
    go_enter Try.func60, Try.ntmps60
    go_wp2
    go_ret
    exact ⟨ret_bool HR.out.symm, rfl⟩
  · by_cases h2 : 2147483647 ≤ x
    · have HR := Lib.hid (show noEl x = true by unfold noEl; simp [h2])
      go_enter Try.func60, Try.ntmps60
      go_wp2
      go_ret
      exact ⟨ret_bool HR.out.symm, rfl⟩
    · have HR := Lib.hid (show noEl x = false by unfold noEl; simp [h1, h2])
      go_enter Try.func60, Try.ntmps60
      go_wp2
      go_ret
      exact ⟨ret_bool HR.out.symm, rfl⟩
theorem any_none {l : List Int} (h : ∀ j, j < l.length → noEl (l.getD j 0) = false) : l.any noEl = false := by
  rw [List.any_eq_false]
  intro x hx
  obtain ⟨j, hj, rfl⟩ := List.getElem_of_mem hx
  have := h j hj
  simp [hj] at this
  simp [this]
theorem any_hit {l : List Int} {k : Nat} (h : k < l.length) (hb : noEl (l.getD k 0) = true) : l.any noEl = true := by
  rw [List.any_eq_true]
  exact ⟨l.getD k 0, by simp [h], hb⟩
set_option maxRecDepth 100000 in
set_option maxHeartbeats 2000000 in
theorem indexFunc_any (v : Value) (l : List Int) (w : World) (h : IntsAt w v l) : Calls Try.prog 73 #[v, .func (.func 60) #[] #[]] w fun e w' => (∃ k : Int, e = .returned (.int .i64 k) ∧ decide (0 ≤ k) = l.any noEl) ∧ w = w' := by
  obtain ⟨a, cap, rfl, hm, hc⟩ := h
  unfold maxLen at hm
  have HC := Lib.hid hc
  clear hc
  have heg : ∀ args w, (callFunc 60 args).run Try.prog w = .ok (.enter 60 args) w := fun _ _ => by kernel_rfl
  go_enter Try.func73, Try.ntmps73
  go_wp2_with fail
  go_loopw [8] (fun i wr => ∃ k : Nat, k ≤ l.length ∧ i = .int .i64 k ∧ Hid (∀ j, j < k → noEl (l.getD j 0) = false) ∧ wr = w) (fun i _ => l.length - (intOf i).toNat)
  case atStart => exact ⟨0, by omega, rfl, Lib.hid (fun j h => absurd h (by omega)), rfl⟩
  case round =>
    obtain ⟨k, hk, rfl, HN, rfl⟩ := hrel
    by_cases hlt : k < l.length
    · obtain ⟨b, off, rfl, hcs2⟩ := HC.out (by intro h; rw [h] at hlt; simp at hlt)
      have x0 := hcs2 k _ (getD_of hlt)
      clear hcs2
      have hf := any_hit hlt
      have HF := Lib.hid hf
      have HN2 := Lib.hid (show noEl (l.getD k 0) = false → ∀ j, j < k + 1 → noEl (l.getD j 0) = false from fun hx j h => by
        by_cases e : j = k
        · subst e; exact hx
        · exact HN.out j (by omega))
      clear hf HN
      generalize l.getD k 0 = x at *
      cases hb : noEl x
      · have HB := Lib.hid hb
        clear hb
        go_wp2_with fail
        refine (noEl_any x _).mono ?_
        rintro e w' ⟨rfl, rfl⟩
        rw [HB.out]
        go_wp2
        go_roundw
        case rel => exact ⟨k + 1, hlt, by go_num, Lib.hid (HN2.out HB.out), trivial⟩
        case measure => simp [intOf]; omega
      · have HB := Lib.hid hb
        clear hb
        go_wp2_with fail
        refine (noEl_any x _).mono ?_
        rintro e w' ⟨rfl, rfl⟩
        rw [HB.out]
        go_wp2
        go_ret
        exact ⟨⟨_, rfl, by rw [HF.out HB.out]; simp⟩, rfl⟩
    · obtain rfl : k = l.length := by omega
      have HA := Lib.hid (any_none HN.out)
      go_wp2
      go_ret
      exact ⟨⟨_, rfl, by rw [HA.out]; rfl⟩, rfl⟩
theorem contains_any (v : Value) (l : List Int) (w : World) (h : IntsAt w v l) : Calls Try.prog 59 #[v, .func (.func 60) #[] #[]] w fun e w' => e = .returned (.bool (l.any noEl)) ∧ w = w' := by
  have H := Lib.hid h
  clear h
  go_enter Try.func59, Try.ntmps59
  go_wp2_with fail
  refine (indexFunc_any v l _ H.out).mono ?_
  rintro e w' ⟨⟨k, rfl, hk⟩, rfl⟩
  have HK := Lib.hid hk
  clear hk
  go_wp2
  go_ret
  exact ⟨ret_bool HK.out, rfl⟩
open Go.RowKit

/-- One step of a climb: the index, the digest, the lists so far. -/
structure St where
  i : Int
  h : Int
  L : List (List Int)
def stN (s : St) (x : Int) : St := if x = -1 then ⟨s.i / 2, s.h, s.L⟩ else if s.i % 2 = 1 then ⟨s.i / 2, nd x s.h, s.L ++ [[1, x, s.h]]⟩ else ⟨s.i / 2, nd s.h x, s.L ++ [[1, s.h, x]]⟩
def stK (l : List Int) (i : Int) (p : List Int) : Nat → St
  | 0 => ⟨i, lf l, [l, [0, Dg l]]⟩
  | k + 1 => stN (stK l i p k) (p.getD k 0)
def clB (i : Int) (p : List Int) : Bool := decide (i < 0) || (decide (20 < p.length) || p.any noEl)
def clH (l : List Int) (i : Int) (p : List Int) : Int := if clB i p then 0 else (stK l i p p.length).h
def clL (l : List Int) (i : Int) (p : List Int) : List (List Int) := if clB i p then [] else (stK l i p p.length).L
theorem stN_i (s : St) (x : Int) : (stN s x).i = s.i / 2 := by unfold stN; split; rfl; split <;> rfl
theorem stN_L (s : St) (x : Int) : (stN s x).L.length ≤ s.L.length + 1 := by unfold stN; split; simp; split <;> simp
theorem stK_i (l : List Int) (i : Int) (p : List Int) (h0 : 0 ≤ i) (h1 : i ≤ 9223372036854775807) : ∀ k, 0 ≤ (stK l i p k).i ∧ (stK l i p k).i ≤ 9223372036854775807
  | 0 => ⟨h0, h1⟩
  | k + 1 => by
    have := stK_i l i p h0 h1 k
    rw [show stK l i p (k + 1) = stN (stK l i p k) (p.getD k 0) from rfl, stN_i]
    omega
theorem stK_L (l : List Int) (i : Int) (p : List Int) : ∀ k, (stK l i p k).L.length ≤ 2 + k
  | 0 => by simp [stK]
  | k + 1 => by
    have := stK_L l i p k
    have h := stN_L (stK l i p k) (p.getD k 0)
    rw [show stK l i p (k + 1) = stN (stK l i p k) (p.getD k 0) from rfl]
    omega
theorem ListsR.bound {n0 k : Nat} {Ls : List (List Int)} {lv : Value} {W : World} (h : ListsR n0 Ls lv W) (hk : lv.ownBlock = some k) : k < W.heap.size := by
  obtain ⟨xs, h1, -⟩ := h
  exact row_bound h1 hk
theorem ListsR.slice {n0 : Nat} {Ls : List (List Int)} {lv : Value} {W : World} (h : ListsR n0 Ls lv W) : ∃ a c, lv = .slice a Ls.length c := by
  obtain ⟨xs, h1, -⟩ := h
  exact row_slice h1
theorem ints_low {W : World} {v : Value} {l : List Int} (h : IntsAt W v l) (hl : l ≠ []) (b off n c : Nat) (e : v = .slice (some ⟨b, off, none⟩) n c) : b < W.heap.size := by
  obtain ⟨a, cap, rfl, -, hx⟩ := h
  obtain ⟨b1, o1, rfl, h2⟩ := hx hl
  obtain ⟨rfl, -⟩ : b1 = b ∧ o1 = off := by simp at e; exact e.1
  cases l with
  | nil => exact absurd rfl hl
  | cons x r =>
    have := World.block_lt_of_cell? _ _ (h2 0 x rfl)
    exact this
set_option maxRecDepth 100000 in
set_option maxHeartbeats 4000000 in
theorem climb_no (v pv : Value) (l p : List Int) (i : Int) (w : World) (h : IntsAt w v l) (hp : IntsAt w pv p) (hb : clB i p = true) :
    Calls Try.prog 25 #[v, .int .i64 i, pv] w fun e w' => e = .returned (.tuple #[.int .i64 0, .slice none 0 0]) ∧ Below w.heap.size w w' := by
  have H := Lib.hid h
  have HP := Lib.hid hp
  obtain ⟨a, cap, rfl, -, -⟩ := h
  obtain ⟨pa, pc, rfl, hm, -⟩ := hp
  unfold maxLen at hm
  by_cases h1 : i < 0
  · go_enter Try.func25, Try.ntmps25
    go_wp2
    exact bodyPost_ret (v := .tuple #[.int .i64 0, .slice none 0 0]) (by simp [results, Try.results25, go_sem]) rfl ⟨rfl, Below.refl _ _⟩
  · by_cases h2 : 20 < p.length
    · have g1 : decide ((20 : Int) < p.length) = true := by simp; omega
      have g2 : decide ((p.length : Int) > 20) = true := by simp; omega
      go_enter Try.func25, Try.ntmps25
      go_wp2
      exact bodyPost_ret (v := .tuple #[.int .i64 0, .slice none 0 0]) (by simp [results, Try.results25, go_sem]) rfl ⟨rfl, Below.refl _ _⟩
    · have g1 : decide ((20 : Int) < p.length) = false := by simp; omega
      have g2 : decide ((p.length : Int) > 20) = false := by simp; omega
      have h3 : p.any noEl = true := by
        unfold clB at hb
        simpa [h1, h2] using hb
      have HA := Lib.hid h3
      clear h3 hb
      go_enter Try.func25, Try.ntmps25
      go_wp2_with fail
      refine (contains_any _ p _ HP.out).mono ?_
      rintro e w' ⟨rfl, rfl⟩
      rw [HA.out]
      go_wp2
      exact bodyPost_ret (v := .tuple #[.int .i64 0, .slice none 0 0]) (by simp [results, Try.results25, go_sem]) rfl ⟨rfl, Below.refl _ _⟩
set_option maxRecDepth 100000 in
set_option maxHeartbeats 4000000 in
theorem climb_ok (v pv : Value) (l p : List Int) (i : Int) (w : World) (h : IntsAt w v l) (hp : IntsAt w pv p) (h9 : l.length ≤ 100000) (hi : i ≤ 9223372036854775807) (hb : clB i p = false) :
    Calls Try.prog 25 #[v, .int .i64 i, pv] w fun e w' => (∃ u, e = .returned (.tuple #[.int .i64 (stK l i p p.length).h, u]) ∧ ListsR (w.heap.size + 1) (stK l i p p.length).L u w') ∧ Below w.heap.size w w' := by
  have H := Lib.hid h
  have HP := Lib.hid hp
  have HLO := Lib.hid (fun hl b off n c e => ints_low h hl b off n c e)
  obtain ⟨a, cap, rfl, -, -⟩ := h
  obtain ⟨pa, pc, rfl, -, -⟩ := hp
  obtain ⟨h1, h2, h3⟩ : ¬ i < 0 ∧ ¬ 20 < p.length ∧ p.any noEl = false := by
    unfold clB at hb
    rw [Bool.or_eq_false_iff, Bool.or_eq_false_iff, decide_eq_false_iff_not, decide_eq_false_iff_not] at hb
    exact ⟨hb.1, hb.2.1, hb.2.2⟩
  have HI := Lib.hid (stK_i l i p (by omega) hi)
  have g1 : decide ((20 : Int) < p.length) = false := by simp; omega
  have g2 : decide ((p.length : Int) > 20) = false := by simp; omega
  have HA := Lib.hid h3
  have heg : ∀ args w, (callFunc 61 args).run Try.prog w = .ok (.enter 61 args) w := fun _ _ => by kernel_rfl
  have HB0 := Lib.hid (al w (.cells #[.slice none 0 0] 25))
  have HC0 := Lib.hid (Cs.new w w.heap.size #[.slice none 0 0] 25 rfl)
  clear h3 hb
  go_enter Try.func25, Try.ntmps25
  go_wp2_with fail
  refine (contains_any _ p _ HP.out).mono ?_
  rintro e w' ⟨rfl, rfl⟩
  rw [HA.out]
  go_wp2_with fail
  have HA1 := Lib.hid (H.out.step HB0.out)
  refine (note_any _ l w.heap.size (.slice none 0 0) [] _ HA1.out h9 (ListsR.nil _ _) (by simp) HC0.out (by simp) (fun hl b off n c e => ⟨by have := HLO.out hl b off n c e; omega, fun h => by cases h⟩)).mono ?_
  rintro e w1 ⟨rfl, ⟨lv1, hc1, hl1⟩, hb1⟩
  have HC1 := Lib.hid hc1
  have HL1 := Lib.hid hl1
  have HB1 := Lib.hid (HB0.out.trans hb1)
  have HLL1 := Lib.hid (show ([] ++ [l] : List (List Int)).length ≤ 900 by simp)
  clear hc1 hl1 hb1 HC0 HB0 HA1
  obtain ⟨d1, hd1⟩ : ∃ z, Dg l = z := ⟨_, rfl⟩
  rw [hd1]
  go_wp2_with fail
  refine (note_any (.slice (some ⟨w1.heap.size, 0, none⟩) 2 2) [0, d1] w.heap.size lv1 ([] ++ [l]) _ (ints_lit w1 [0, d1] #[.int .i64 0, .int .i64 d1] 3 rfl (by simp) 2 rfl w1.heap.size rfl) (by simp) (HL1.out.step (al _ _)) (by have := HLL1.out; omega) (HC1.out.alloc _) (by have := HC1.out.2.2; simp; omega) (fun _ b off n c e => by
      have e1 : b = w1.heap.size := by simp at e; exact e.1.1.symm
      subst e1
      exact ⟨by have := HC1.out.2.2; omega, fun h => by have := HL1.out.bound h; omega⟩)).mono ?_
  rintro e w2 ⟨rfl, ⟨lv2, hc2, hl2⟩, hb2⟩
  have HC2 := Lib.hid hc2
  have HL2 := Lib.hid (show ListsR (w.heap.size + 1) (stK l i p 0).L lv2 w2 by rw [← hd1] at hl2; exact hl2)
  have HB2 := Lib.hid ((HB1.out.alloc HB1.out.size (.cells #[.int .i64 0, .int .i64 d1] 3)).trans hb2)
  have HH := Lib.hid (show Dg [0, d1] = (stK l i p 0).h by rw [← hd1]; rfl)
  clear hc2 hl2 hb2 HC1 HL1 HB1 hd1 HLL1
  rw [HH.out]
  go_wp2_with fail
  go_loopw [1, 10, 32] (fun iv hv kv wr => ∃ k : Nat, k ≤ p.length ∧ kv = .int .i64 k ∧ iv = .int .i64 (stK l i p k).i ∧ hv = .int .i64 (stK l i p k).h ∧ (∃ lv, Hid (Cs wr w.heap.size #[lv]) ∧ Hid (ListsR (w.heap.size + 1) (stK l i p k).L lv wr)) ∧ Hid (Below w.heap.size w wr)) (fun _ _ kv _ => p.length - (intOf kv).toNat)
  case atStart => exact ⟨0, by omega, rfl, rfl, rfl, ⟨lv2, HC2, HL2⟩, HB2⟩
  case round =>
    clear HC2 HL2 HB2 HH
    obtain ⟨k, hk, rfl, rfl, rfl, ⟨lv3, HC3, HL3⟩, HB3⟩ := hrel
    by_cases hlt : k < p.length
    · obtain ⟨a2, cap2, hva, -, hcs⟩ := HP.out.step HB3.out
      obtain ⟨rfl, rfl⟩ : pa = a2 ∧ pc = cap2 := by simpa using hva
      obtain ⟨b, off, rfl, hcs2⟩ := hcs (by intro h; rw [h] at hlt; simp at hlt)
      have x0 := hcs2 k _ (getD_of hlt)
      clear hcs hcs2 hva
      have hs : stK l i p (k + 1) = stN (stK l i p k) (p.getD k 0) := rfl
      have hii := HI.out k
      have HLL3 := Lib.hid (show (stK l i p k).L.length ≤ 900 by have := stK_L l i p k; omega)
      have HS := Lib.hid hs
      clear hs
      generalize p.getD k 0 = x at *
      generalize stK l i p k = s at *
      obtain ⟨si, sh, sL⟩ := s
      simp only at hii HLL3 HL3 ⊢
      have hq1 : (si.tmod 2) = si % 2 := Int.tmod_eq_emod_of_nonneg hii.1
      have hq2 : (si.tdiv 2) = si / 2 := Int.tdiv_eq_ediv_of_nonneg hii.1
      have hw1 : wrap64 (si % 2) = si % 2 := IntWalk.wrap64_in _ (by omega)
      have hw2 : wrap64 (si / 2) = si / 2 := IntWalk.wrap64_in _ (by omega)
      by_cases hx : x = -1
      · have HN := Lib.hid (show stN ⟨si, sh, sL⟩ x = ⟨si / 2, sh, sL⟩ by unfold stN; rw [if_pos hx])
        have t1 : (x == -1) = true := by simp; exact hx
        have t2 : decide (x = -1) = true := by simp; exact hx
        clear hx
        go_wp2
        go_roundw
        case rel => exact ⟨k + 1, hlt, by go_num, by rw [HS.out, HN.out], by rw [HS.out, HN.out], ⟨_, HC3, Lib.hid (by rw [HS.out, HN.out]; exact HL3.out)⟩, HB3⟩
        case measure => simp [intOf]; omega
      · have t1 : (x == -1) = false := by simp; exact hx
        have t2 : decide (x = -1) = false := by simp; exact hx
        by_cases ho : si % 2 = 1
        · have HN := Lib.hid (show stN ⟨si, sh, sL⟩ x = ⟨si / 2, nd x sh, sL ++ [[1, x, sh]]⟩ by unfold stN; rw [if_neg hx]; simp only []; rw [if_pos ho])
          have t3 : (si % 2 == 1) = true := by simp; exact ho
          have t4 : decide (si % 2 = 1) = true := by simp; exact ho
          clear hx ho
          go_wp2_with fail
          refine (note_any (.slice (some ⟨wr.heap.size, 0, none⟩) 3 3) [1, x, sh] w.heap.size lv3 sL _ (ints_lit wr [1, x, sh] #[.int .i64 1, .int .i64 x, .int .i64 sh] 3 rfl (by simp) 3 rfl wr.heap.size rfl) (by simp) (HL3.out.step (al _ _)) (by have := HLL3.out; omega) (HC3.out.alloc _) (by have := HC3.out.2.2; simp; omega) (fun _ b off n c e => by
            have e1 : b = wr.heap.size := by simp at e; exact e.1.1.symm
            subst e1
            exact ⟨by have := HC3.out.2.2; omega, fun h => by have := HL3.out.bound h; omega⟩)).mono ?_
          rintro e w4 ⟨rfl, ⟨lv4, hc4, hl4⟩, hb4⟩
          have HC4 := Lib.hid hc4
          have HL4 := Lib.hid hl4
          have HB4 := Lib.hid ((HB3.out.alloc HB3.out.size (.cells #[.int .i64 1, .int .i64 x, .int .i64 sh] 3)).trans hb4)
          rw [show Dg [1, x, sh] = nd x sh from rfl]
          clear hc4 hl4 hb4 HC3 HL3 HB3
          go_wp2
          go_roundw
          case rel => exact ⟨k + 1, hlt, by go_num, by rw [HS.out, HN.out], by rw [HS.out, HN.out], ⟨_, HC4, Lib.hid (by rw [HS.out, HN.out]; exact HL4.out)⟩, HB4⟩
          case measure => simp [intOf]; omega
        · have HN := Lib.hid (show stN ⟨si, sh, sL⟩ x = ⟨si / 2, nd sh x, sL ++ [[1, sh, x]]⟩ by unfold stN; rw [if_neg hx]; simp only []; rw [if_neg ho])
          have t3 : (si % 2 == 1) = false := by simp; omega
          have t4 : decide (si % 2 = 1) = false := by simp; omega
          clear hx ho
          go_wp2_with fail
          refine (note_any (.slice (some ⟨wr.heap.size, 0, none⟩) 3 3) [1, sh, x] w.heap.size lv3 sL _ (ints_lit wr [1, sh, x] #[.int .i64 1, .int .i64 sh, .int .i64 x] 3 rfl (by simp) 3 rfl wr.heap.size rfl) (by simp) (HL3.out.step (al _ _)) (by have := HLL3.out; omega) (HC3.out.alloc _) (by have := HC3.out.2.2; simp; omega) (fun _ b off n c e => by
            have e1 : b = wr.heap.size := by simp at e; exact e.1.1.symm
            subst e1
            exact ⟨by have := HC3.out.2.2; omega, fun h => by have := HL3.out.bound h; omega⟩)).mono ?_
          rintro e w4 ⟨rfl, ⟨lv4, hc4, hl4⟩, hb4⟩
          have HC4 := Lib.hid hc4
          have HL4 := Lib.hid hl4
          have HB4 := Lib.hid ((HB3.out.alloc HB3.out.size (.cells #[.int .i64 1, .int .i64 sh, .int .i64 x] 3)).trans hb4)
          rw [show Dg [1, sh, x] = nd sh x from rfl]
          clear hc4 hl4 hb4 HC3 HL3 HB3
          go_wp2
          go_roundw
          case rel => exact ⟨k + 1, hlt, by go_num, by rw [HS.out, HN.out], by rw [HS.out, HN.out], ⟨_, HC4, Lib.hid (by rw [HS.out, HN.out]; exact HL4.out)⟩, HB4⟩
          case measure => simp [intOf]; omega
    · obtain rfl : k = p.length := by omega
      obtain ⟨la, lc, rfl⟩ := HL3.out.slice
      have c0 := HC3.out.c 0 rfl
      go_wp2_with fail
      go_quiet (fail)
      go_wp2_with fail
      exact bodyPost_ret (v := .tuple #[.int .i64 (stK l i p p.length).h, .slice la (stK l i p p.length).L.length lc]) (by simp [results, Try.results25, go_sem]) rfl ⟨⟨_, rfl, HL3.out.step (below_drewN' _ _ _)⟩, HB3.out.trans (below_drewN' _ _ _)⟩
theorem climb_any (v pv : Value) (l p : List Int) (i : Int) (w : World) (h : IntsAt w v l) (hp : IntsAt w pv p) (h9 : l.length ≤ 100000) (hi : i ≤ 9223372036854775807) :
    Calls Try.prog 25 #[v, .int .i64 i, pv] w fun e w' => (∃ u, e = .returned (.tuple #[.int .i64 (clH l i p), u]) ∧ ListsR (w.heap.size + 1) (clL l i p) u w') ∧ Below w.heap.size w w' := by
  cases hb : clB i p
  · rw [show clH l i p = (stK l i p p.length).h by unfold clH; rw [hb]; rfl, show clL l i p = (stK l i p p.length).L by unfold clL; rw [hb]; rfl]
    exact climb_ok v pv l p i w h hp h9 hi hb
  · rw [show clH l i p = 0 by unfold clH; rw [hb]; rfl, show clL l i p = [] by unfold clL; rw [hb]; rfl]
    exact (climb_no v pv l p i w h hp hb).mono fun e w' h => ⟨⟨_, h.1, ListsR.nil _ _⟩, h.2⟩
open Go.RowKit

theorem pairs_two (x y : Int) (r : List Int) : pairs (x :: y :: r) = nd x y :: pairs r := by
  unfold pairs
  rw [show (x :: y :: r).length / 2 = r.length / 2 + 1 by simp; omega, List.range_succ_eq_map, List.map_cons, List.map_map]
  congr 1
theorem upR_two (x y : Int) (r : List Int) : upR (x :: y :: r) = nd x y :: upR r := by
  unfold upR
  rw [pairs_two, List.cons_append]
  congr 1
  congr 1
  by_cases h : r.length % 2 = 1
  · rw [if_pos h, if_pos (by simp; omega)]
    obtain ⟨z, s, rfl⟩ : ∃ z s, r = z :: s := by
      cases r with
      | nil => simp at h
      | cons z s => exact ⟨z, s, rfl⟩
    simp
  · rw [if_neg h, if_neg (by simp; omega)]
theorem upR_one (x : Int) : upR [x] = [x] := by simp [upR, pairs]
theorem upR_get : ∀ (j : Nat) (row : List Int), 2 * j < row.length → (upR row).getD j 0 = if 2 * j + 1 < row.length then nd (row.getD (2 * j) 0) (row.getD (2 * j + 1) 0) else row.getD (2 * j) 0
  | 0, row, h => by
    match row, h with
    | [x], _ => rw [upR_one]; rfl
    | x :: y :: r, _ => rw [upR_two]; simp
  | j + 1, row, h => by
    match row, h with
    | x :: y :: r, h =>
      rw [upR_two, List.getD_cons_succ, upR_get j r (by simp at h; omega)]
      have e : 2 * (j + 1) = 2 * j + 1 + 1 := by omega
      rw [e, List.getD_cons_succ, List.getD_cons_succ, List.getD_cons_succ, List.getD_cons_succ]
      by_cases g : 2 * j + 1 < r.length
      · rw [if_pos g, if_pos (by simp; omega)]
      · rw [if_neg g, if_neg (by simp; omega)]
/-- How often a number can be halved, rounded up, until it is 1. -/
def hlv : Nat → Nat → Nat
  | 0, _ => 0
  | f + 1, n => if 1 < n then hlv f ((n + 1) / 2) + 1 else 0
open Go.RowKit

def big (l : List Int) : Bool := decide (40 < l.length)
theorem big_none {L : List (List Int)} (h : ∀ j, j < L.length → big (L.getD j []) = false) : L.any big = false := by
  rw [List.any_eq_false]
  intro x hx
  obtain ⟨j, hj, rfl⟩ := List.getElem_of_mem hx
  have := h j hj
  simp [hj] at this
  simp [this]
theorem big_hit {L : List (List Int)} {k : Nat} (h : k < L.length) (hb : big (L.getD k []) = true) : L.any big = true := by
  rw [List.any_eq_true]
  exact ⟨L.getD k [], by simp [h], hb⟩
end Go.Proofs.Yteodafhgfcbdpaa
