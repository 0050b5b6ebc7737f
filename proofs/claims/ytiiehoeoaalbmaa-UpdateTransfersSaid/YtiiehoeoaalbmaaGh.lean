/- Hash trees: 'Path' at any index; the closure of 'Climb'. -/
import Derived.Test.YtiiehoeoaalbmaaGg
import Derived.Lib.SliceRun
import Derived.Deep.RegionLaw
import Derived.Deep.CutRange
namespace Go.Proofs.Ytiiehoeoaalbmaa
open Go.RowKit

/-- What 'Path' leaves. -/
def pthA (L : List (List Int)) (i : Int) : List Int := if L.length ≤ 1000 ∧ 0 ≤ i ∧ i < L.length then pthL (rowsT (lvs L)) i.toNat else []
set_option maxRecDepth 100000 in
set_option maxHeartbeats 2000000 in
theorem path_no (v : Value) (L : List (List Int)) (i : Int) (w : World) (h : RowsAt w v L) (hn : ¬ (L.length ≤ 1000 ∧ 0 ≤ i ∧ i < L.length)) : Calls Try.prog 37 #[v, .int .i64 i] w fun e w' => ∃ u, e = .returned u ∧ IntsAt w' u [] ∧ Below w.heap.size w w' := by
  obtain ⟨a, cap, rfl, -, -⟩ := h
  have HB := Lib.hid (al w (.cells #[.int .i64 i] 3))
  by_cases h1 : L.length ≤ 1000
  · have g1 : decide ((L.length : Int) > 1000) = false := by simp; omega
    have g1b : decide ((1000 : Int) < L.length) = false := by simp; omega
    by_cases h2 : 0 ≤ i
    · have g2 : decide (i < 0) = false := by simp; omega
      have g3 : decide (i ≥ (L.length : Int)) = true := by simp; omega
      have g3b : decide ((L.length : Int) ≤ i) = true := by simp; omega
      go_enter Try.func37, Try.ntmps37
      go_wp2
      go_ret
      exact ⟨_, rfl, ints_nil _, HB.out⟩
    · have g2 : decide (i < 0) = true := by simp; omega
      go_enter Try.func37, Try.ntmps37
      go_wp2
      go_ret
      exact ⟨_, rfl, ints_nil _, HB.out⟩
  · have g1 : decide ((L.length : Int) > 1000) = true := by simp; omega
    have g1b : decide ((1000 : Int) < L.length) = true := by simp; omega
    go_enter Try.func37, Try.ntmps37
    go_wp2
    go_ret
    exact ⟨_, rfl, ints_nil _, HB.out⟩
theorem path_any (v : Value) (L : List (List Int)) (i : Int) (w : World) (h : RowsAt w v L) : Calls Try.prog 37 #[v, .int .i64 i] w fun e w' => ∃ u, e = .returned u ∧ IntsAt w' u (pthA L i) ∧ Below w.heap.size w w' := by
  unfold pthA
  by_cases hn : L.length ≤ 1000 ∧ 0 ≤ i ∧ i < L.length
  · rw [if_pos hn]
    obtain ⟨j, rfl⟩ := Int.eq_ofNat_of_zero_le hn.2.1
    exact callsIn_wide.1 (path_in v L j w h hn.1 (by omega))
  · rw [if_neg hn]
    exact path_no v L i w h hn
theorem in_cells {w : World} {a : Option Addr} {cap : Nat} {l : List Int} (h : IntsAt w (.slice a l.length cap) l) (ad : Addr) (ha : a = some ad) : ∀ j u, (l.map (Value.int .i64))[j]? = some u → w.cell? (ad.add j) = some u := by
  intro j u hu
  obtain ⟨a', cap', he, -, hc⟩ := h
  obtain ⟨rfl, rfl⟩ : a = a' ∧ cap = cap' := by simpa using he
  rw [List.getElem?_map] at hu
  cases hj : l[j]? with
  | none => rw [hj] at hu; cases hu
  | some x =>
    rw [hj] at hu
    obtain ⟨b', off', ha', hx⟩ := hc (by intro e; rw [e] at hj; cases hj)
    rw [ha] at ha'
    obtain rfl : ad = ⟨b', off', none⟩ := by simpa using ha'
    rw [Go.WideShapes.add_plain, hx j x hj]
    exact hu
theorem in_one (l : List Int) : ∀ u ∈ l.map (Value.int .i64), u.oneCell' = true := by
  intro u hu
  rw [List.mem_map] at hu
  obtain ⟨x, -, rfl⟩ := hu
  rfl
set_option maxRecDepth 100000 in
set_option maxHeartbeats 2000000 in
theorem in_clone (v : Value) (l : List Int) (w : World) (h : IntsAt w v l) (h9 : l.length ≤ 100000) :
    Calls Try.prog 36 #[v] w fun e w' => ∃ u, e = .returned u ∧ w'.ownsRow w.heap.size 3 1 u l.length (l.map (Value.int .i64)) ∧ Below w.heap.size w w' := by
  have H := Lib.hid h
  obtain ⟨a, cap, rfl, hm, hc⟩ := h
  obtain ⟨i0, hi, hz0, hz1, hz2⟩ := info_parts infoInt
  have q22 : ∀ (w : World) (a : Option Addr) (n c n' c' : Nat), (binOp .eql 22 (.slice a n c) (.slice none n' c')).run Try.prog w = .ok (.bool a.isNone) w := fun w a n c n' c' => Lib.run_eql_slice_nil w _ _ a n c n' c' Try.underlying22
  cases a with
  | none =>
    have hl : l = [] := by
      cases l with
      | nil => rfl
      | cons x l => obtain ⟨b, off, e, -⟩ := hc (by simp); cases e
    subst hl
    clear H hc hm h9
    go_enter Try.func36, Try.ntmps36
    go_wp2
    go_ret
    exact ⟨_, rfl, World.ownsRow_nil _ _ _ _, Below.refl _ _⟩
  | some ad =>
    have HN := Lib.hid (in_cells (H.out.step (al w (.cells #[] 3))) ad rfl)
    have c1 : 0 + l.length ≤ maxLen := by unfold maxLen; omega
    have c2 : (0 + l.length) * 8 ≤ 140737488355328 := by omega
    have HR := Lib.hid (show (w.alloc (.cells #[] 3)).ownsRow w.heap.size 3 1 (.slice (some ⟨w.heap.size, 0, none⟩) 0 0) 0 [] from
      ⟨rfl, .inr ⟨w.heap.size, 0, _, rfl, Nat.le_refl _, heap_alloc_new _ _, by omega, by unfold maxLen; omega, rfl, rfl⟩⟩)
    clear hc hm
    go_enter Try.func36, Try.ntmps36
    go_wp2_with (at_builtin; refine wpList_append_own _ rfl _ _ 22 rfl w.heap.size 3 i0 _ 1 8 Try.underlying22 hi hz0 hz1 hz2 rfl (by decide) _ _ _ rfl HR.out ad l.length cap (l.map (Value.int .i64)) rfl (by simp) HN.out (in_one l) c1 c2 (by simp) ?_; intro v' w1 hown hgrow _; have HO := Lib.hid hown; have HG := Lib.hid hgrow; clear hown hgrow)
    have HB := Lib.hid ((al w (.cells #[] 3)).grown HG.out (by simp) (fun k e => by cases e; exact Nat.le_refl _))
    have HO2 := Lib.hid (show w1.ownsRow w.heap.size 3 1 v' l.length (l.map (Value.int .i64)) by have := HO.out; rw [Nat.zero_add] at this; exact this)
    clear HO
    go_wp2
    go_ret
    exact ⟨_, rfl, HO2.out, HB.out⟩
/-- Lists of numbers, each in a block of its own, in a slice of one's own. -/
def ListsR (n0 : Nat) (Ls : List (List Int)) (lv : Value) (W : World) : Prop :=
  ∃ xs : List Value, W.ownsRow n0 22 1 lv Ls.length xs ∧ ∀ (i : Nat) (x : List Int), Ls[i]? = some x → ∃ u, xs[i]? = some u ∧ u.oneCell' = true ∧ W.ownsRow n0 3 1 u x.length (x.map (Value.int .i64))
theorem ListsR.nil (n0 : Nat) (W : World) : ListsR n0 [] (.slice none 0 0) W := ⟨[], World.ownsRow_nil _ _ _ _, fun i x h => by simp at h⟩
theorem ListsR.step {n0 : Nat} {Ls : List (List Int)} {lv : Value} {W W' : World} (h : ListsR n0 Ls lv W) (hb : Below W.heap.size W W') : ListsR n0 Ls lv W' := by
  obtain ⟨xs, h1, h2⟩ := h
  refine ⟨xs, row_step h1 hb, fun i x hi => ?_⟩
  obtain ⟨u, e1, e2, e3⟩ := h2 i x hi
  exact ⟨u, e1, e2, row_step e3 hb⟩
theorem row_type {w : World} {b1 b2 e1 e2 s1 s2 n1 n2 k : Nat} {v1 v2 : Value} {x1 x2 : List Value} (h1 : w.ownsRow b1 e1 s1 v1 n1 x1) (h2 : w.ownsRow b2 e2 s2 v2 n2 x2) (he : e1 ≠ e2) (hk : v1.ownBlock = some k) : v2.ownBlock ≠ some k := fun hk2 => by
  rcases h1.2 with ⟨e, -⟩ | ⟨g, cp, cur, e, -, p1, -⟩
  · rw [e] at hk; cases hk
  · rcases h2.2 with ⟨f, -⟩ | ⟨g', cp', cur', f, -, p2, -⟩
    · rw [f] at hk2; cases hk2
    · rw [e] at hk; rw [f] at hk2
      cases hk; cases hk2
      rw [p1] at p2
      simp at p2
      exact he p2.2
theorem row_grown {w w' : World} {base e s n : Nat} {v : Value} {xs : List Value} {row : Option Nat} (h : w.ownsRow base e s v n xs) (hg : w.grownBy w' row) (hne : ∀ k, v.ownBlock = some k → row ≠ some k) : w'.ownsRow base e s v n xs := by
  refine ⟨h.1, ?_⟩
  rcases h.2 with h0 | ⟨g, cap, cur, h1, h2, h3, h4⟩
  · exact .inl h0
  · exact .inr ⟨g, cap, cur, h1, h2, (hg.block g (Array.getElem?_eq_some_iff.1 h3).1 (fun e => hne g (by rw [h1]; rfl) e.symm)).trans h3, h4⟩
theorem ListsR.rows {n0 : Nat} {Ls : List (List Int)} {lv : Value} {W : World} (h : ListsR n0 Ls lv W) (hm : Ls.length ≤ 100000) : RowsAt W lv Ls := by
  obtain ⟨xs, h1, h2⟩ := h
  obtain ⟨a, c, rfl⟩ := row_slice h1
  refine ⟨a, c, rfl, by unfold maxLen; omega, fun hl => ?_⟩
  rcases h1.2 with ⟨-, e⟩ | ⟨g, cap, cur, e, -, -⟩
  · exact absurd (List.length_eq_zero_iff.1 e) hl
  · obtain ⟨rfl, rfl⟩ : a = some ⟨g, 0, none⟩ ∧ c = cap := by simpa using e
    refine ⟨g, 0, rfl, fun i x hi => ?_⟩
    obtain ⟨u, e1, -, e3⟩ := h2 i x hi
    have hc := h1.cells (g := g) rfl i u e1
    rw [Go.WideShapes.add_plain] at hc
    exact ⟨u, hc, ints_of_row e3⟩
theorem infoSl : (Try.prog.info? 22).map (fun i => (i.zero, i.size, i.bytes)) = some (some (.slice none 0 0), 1, 24) := by kernel_rfl
theorem ints_apart {W W' : World} {v : Value} {l : List Int} {row : Option Nat} (h : IntsAt W v l) (hg : W.grownBy W' row) (hne : l ≠ [] → ∀ b off n c, v = .slice (some ⟨b, off, none⟩) n c → row ≠ some b) : IntsAt W' v l := by
  obtain ⟨a, cap, rfl, hm, hc⟩ := h
  refine ⟨a, cap, rfl, hm, fun hl => ?_⟩
  obtain ⟨b, off, rfl, hx⟩ := hc hl
  refine ⟨b, off, rfl, fun i y h => ?_⟩
  have h1 := hx i y h
  obtain ⟨o, ho, -⟩ := cells_of h1
  exact (World.cell?_of_block (a := ⟨b, off + i, none⟩) (hg.block b (Array.getElem?_eq_some_iff.1 ho).1 (fun e => hne hl b off _ _ rfl e.symm))).trans h1
theorem ints_away {W : World} {v : Value} {l : List Int} {B : Nat} (h : IntsAt W v l) (hne : l ≠ [] → ∀ b off n c, v = .slice (some ⟨b, off, none⟩) n c → b ≠ B) (j : Nat) (u : Value) : IntsAt (W.setCell ⟨B, j, none⟩ u) v l := by
  obtain ⟨a, cap, rfl, hm, hc⟩ := h
  refine ⟨a, cap, rfl, hm, fun hl => ?_⟩
  obtain ⟨b, off, rfl, hx⟩ := hc hl
  exact ⟨b, off, rfl, fun i y h => (World.cell?_of_block (a := ⟨b, off + i, none⟩) (Below.heap_setCell W ⟨B, j, none⟩ u b (hne hl b off _ _ rfl))).trans (hx i y h)⟩
/-- One more list behind the others. -/
theorem ListsR.snoc {n0 : Nat} {Ls : List (List Int)} {l : List Int} {lv lv' u : Value} {xs : List Value} {W W' : World} (h : ∀ (i : Nat) (x : List Int), Ls[i]? = some x → ∃ u, xs[i]? = some u ∧ u.oneCell' = true ∧ W.ownsRow n0 3 1 u x.length (x.map (Value.int .i64))) (hl : xs.length = Ls.length) (hown : W.ownsRow n0 22 1 lv Ls.length xs)
    (hu : W.ownsRow n0 3 1 u l.length (l.map (Value.int .i64))) (h1 : u.oneCell' = true) (hgrow : W.grownBy W' lv.ownBlock) (hown' : W'.ownsRow n0 22 1 lv' (Ls.length + 1) (xs ++ [u])) : ListsR n0 (Ls ++ [l]) lv' W' := by
  have ap : ∀ {y : Value} {x : List Int}, W.ownsRow n0 3 1 y x.length (x.map (Value.int .i64)) → W'.ownsRow n0 3 1 y x.length (x.map (Value.int .i64)) := fun hy => row_grown hy hgrow (fun k e => row_type hy hown (by decide) e)
  refine ⟨xs ++ [u], by rw [List.length_append]; exact hown', fun i x hi => ?_⟩
  by_cases hlt : i < Ls.length
  · rw [List.getElem?_append_left hlt] at hi
    obtain ⟨y, e1, e2, e3⟩ := h i x hi
    exact ⟨y, by rw [List.getElem?_append_left (by omega)]; exact e1, e2, ap e3⟩
  · have hi2 : i = Ls.length := by
      have := (List.getElem?_eq_some_iff.1 hi).1
      rw [List.length_append] at this
      simp at this
      omega
    subst hi2
    have hx : l = x := by simpa using hi
    subst hx
    exact ⟨u, by rw [← hl]; simp, h1, ap hu⟩
theorem ListsR.set {n0 B : Nat} {Ls : List (List Int)} {lv : Value} {W : World} (h : ListsR n0 Ls lv W) (hB : B < n0) (u : Value) : ListsR n0 Ls lv (W.setCell ⟨B, 0, none⟩ u) := by
  obtain ⟨xs, h1, h2⟩ := h
  refine ⟨xs, ownsRow_setCell_below h1 (a := ⟨B, 0, none⟩) hB u, fun i x hi => ?_⟩
  obtain ⟨y, e1, e2, e3⟩ := h2 i x hi
  exact ⟨y, e1, e2, ownsRow_setCell_below e3 (a := ⟨B, 0, none⟩) hB u⟩
theorem row_base {w : World} {base b2 e s : Nat} {v : Value} {n : Nat} {xs : List Value} (h : w.ownsRow base e s v n xs) (hb : b2 ≤ base) : w.ownsRow b2 e s v n xs := by
  refine ⟨h.1, ?_⟩
  rcases h.2 with h0 | ⟨g, cap, cur, h1, h2, h3, h4⟩
  · exact .inl h0
  · exact .inr ⟨g, cap, cur, h1, Nat.le_trans hb h2, h3, h4⟩
theorem Cs.low {w w1 : World} {n N : Nat} {vs : Array Value} (h : Cs w n vs) (hb : Below N w w1) (hn : n < N) : Cs w1 n vs :=
  ⟨fun j hj => (hb.cell hn).trans (h.1 j hj), fun j hj => (hb.frozen hn).trans (h.2.1 j hj), Nat.lt_of_lt_of_le h.2.2 hb.size⟩
set_option maxRecDepth 100000 in
set_option maxHeartbeats 4000000 in
theorem note_any (v : Value) (l : List Int) (B : Nat) (lv : Value) (Ls : List (List Int)) (w : World) (h : IntsAt w v l) (h9 : l.length ≤ 100000) (hL : ListsR (B + 1) Ls lv w) (h99 : Ls.length ≤ 1000) (hC : Cs w B #[lv]) (hsz : B < w.heap.size)
    (ha : l ≠ [] → ∀ b off n c, v = .slice (some ⟨b, off, none⟩) n c → b ≠ B ∧ lv.ownBlock ≠ some b) :
    Calls Try.prog 61 #[v, .pointer (some ⟨B, 0, none⟩)] w fun e w' => e = .returned (.int .i64 (Dg l)) ∧ (∃ lv', Cs w' B #[lv'] ∧ ListsR (B + 1) (Ls ++ [l]) lv' w') ∧ Below B w w' := by
  have H := Lib.hid h
  have HL := Lib.hid hL
  have HC := Lib.hid hC
  have HA := Lib.hid ha
  obtain ⟨a, cap, rfl, -, -⟩ := h
  obtain ⟨xs, hown, hxs⟩ := hL
  obtain ⟨la, lc, rfl⟩ := row_slice hown
  have HO := Lib.hid hown
  have HX := Lib.hid hxs
  obtain ⟨i0, hi, hz0, hz1, hz2⟩ := info_parts infoSl
  have c0 : w.cell? ⟨B, 0, none⟩ = some (.slice la Ls.length lc) := hC.c 0 rfl
  clear hC ha hown hxs
  go_enter Try.func61, Try.ntmps61
  go_upto_region 1 with fail
  have HQ := Lib.hid (show ∀ w1 u, Below w.heap.size w w1 → w1.ownsRow w.heap.size 3 1 u l.length (l.map (Value.int .i64)) → True from fun _ _ _ _ => trivial)
  go_cut [] from 4 to 10 (fun wc => (∃ lv', Cs wc B #[lv'] ∧ ListsR (B + 1) (Ls ++ [l]) lv' wc) ∧ IntsAt wc (.slice a l.length cap) l ∧ Below B w wc)
  case first =>
    have hle : B + 1 ≤ w.heap.size := hsz
    have k1 : Ls.length + 1 ≤ maxLen := by unfold maxLen; omega
    have k2 : (Ls.length + 1) * 24 ≤ 140737488355328 := by omega
    go_region_law (first | (go_simp; go_at_call 36; refine (in_clone _ l _ (H.out.step (below_drew _ _)) h9).mono ?_; rintro e w3 ⟨u, rfl, hu, b3⟩; obtain ⟨ua, uc, rfl⟩ := row_slice hu; have HU := Lib.hid hu; have HB3 := Lib.hid (show Below w.heap.size w w3 from (below_drew _ _).trans b3); have HB4 := Lib.hid (HB3.out.alloc HB3.out.size (.cells #[.slice ua l.length uc] 22)); have HC4 := Lib.hid (Cs.new w3 w3.heap.size #[.slice ua l.length uc] 22 rfl); have c1 : w3.cell? ⟨B, 0, none⟩ = some (.slice la Ls.length lc) := (HC.out.step HB3.out).c 0 rfl; have c2 : (w3.alloc (.cells #[.slice ua l.length uc] 22)).cell? ⟨B, 0, none⟩ = some (.slice la Ls.length lc) := (HC.out.step HB4.out).c 0 rfl; have k3 := Nat.le_trans hle HB4.out.size; clear b3 hu) | (refine step_append_lies _ rfl _ _ 25 rfl (B + 1) 22 i0 (.slice none 0 0) 1 24 Try.underlying25 hi hz0 hz1 hz2 rfl (by decide) _ _ _ rfl (row_step HO.out HB4.out) ⟨w3.heap.size, 0, none⟩ 1 1 [.slice ua l.length uc] rfl rfl (one_at HC4.out) (by simp [Value.oneCell']) (by decide) k1 k2 k3 _ rfl ?_; intro g' cap' w5 hown' hgrow _ _; have HN := Lib.hid hown'; have HG := Lib.hid hgrow; have HB5 := Lib.hid ((HB4.out.mono hle).grown hgrow k3 (fun k e => row_own (row_step HO.out HB4.out) e)); have HC5 := Lib.hid (HC.out.low HB5.out (Nat.lt_succ_self _)); have c5 := HC5.out.c 0 rfl; have f5 := HC5.out.f 0 (by simp); have z5 := HC5.out.2.2; have HLN := Lib.hid (ListsR.set (ListsR.snoc (W := w3.alloc (.cells #[.slice ua l.length uc] 22)) (l := l) (u := .slice ua l.length uc) (fun i x hi => by obtain ⟨y, e1, e2, e3⟩ := HX.out i x hi; exact ⟨y, e1, e2, row_step e3 HB4.out⟩) (by have := HO.out.1; omega) (row_step HO.out HB4.out) (row_base (row_step HU.out (al _ _)) hle) (by simp [Value.oneCell']) hgrow hown') (Nat.lt_succ_self _) (.slice (some ⟨g', 0, none⟩) (Ls.length + 1) cap')); have HI5 := Lib.hid (ints_away (ints_apart (H.out.step HB4.out) hgrow (fun hl b off n c e => (HA.out hl b off n c e).2)) (fun hl b off n c e => (HA.out hl b off n c e).1) 0 (.slice (some ⟨g', 0, none⟩) (Ls.length + 1) cap')); have HBF := Lib.hid ((HB5.out.mono (Nat.le_succ _)).setCell (p := ⟨B, 0, none⟩) (Nat.le_refl _) (.slice (some ⟨g', 0, none⟩) (Ls.length + 1) cap')); have HCF := Lib.hid (HC5.out.set 0 (by simp) (.slice (some ⟨g', 0, none⟩) (Ls.length + 1) cap') (vs' := #[.slice (some ⟨g', 0, none⟩) (Ls.length + 1) cap']) rfl); clear hown' hgrow))
    all_goals go_wp2
    all_goals go_meet
    all_goals exact ⟨⟨_, HCF.out, HLN.out⟩, HI5.out, HBF.out⟩
  case rest =>
    obtain ⟨⟨lv', hc, hl⟩, hi5, hb⟩ := hcut
    have HI5 := Lib.hid hi5
    clear hi5
    go_wp2_with fail
    refine (digest_any _ l _ HI5.out).mono ?_
    rintro e w7 ⟨rfl, rfl⟩
    go_wp2
    go_ret
    exact ⟨rfl, ⟨lv', hc, hl⟩, hb⟩
end Go.Proofs.Ytiiehoeoaalbmaa
