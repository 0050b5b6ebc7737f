import Derived.Test.YteodafhgfcbdpaaRb
import Derived.Test.YteodafhgfcbdpaaUq
namespace Go.Proofs.Yteodafhgfcbdpaa
open Go.RowKit

theorem fmF_len : ∀ (f i c : Nat), c ≤ f → (fmF f i c).length = hlv f c
  | 0, i, c, _ => rfl
  | f + 1, i, c, h => by
    by_cases g : 1 < c
    · rw [fmF_step g h, List.length_cons, Nat.add_sub_cancel, fmF_len f (i / 2) ((c + 1) / 2) (by omega)]
      show _ = if 1 < c then hlv f ((c + 1) / 2) + 1 else 0
      rw [if_pos g]
    · rw [fmF_end g]
      show 0 = if 1 < c then hlv f ((c + 1) / 2) + 1 else 0
      rw [if_neg g]
theorem chk_el {a : Bool} {x : Int} (h : chkB a x = true) : noEl x = false := by
  unfold noEl
  cases a with
  | true => rw [chk_alone h]; rfl
  | false =>
    have h2 : inB 0 2147483646 x = true := by
      unfold chkB at h
      rw [Bool.and_eq_true] at h
      simpa using h.2
    have := inB_iff.1 h2
    rw [decide_eq_false (by omega), decide_eq_false (by omega)]
    rfl
theorem form_climbs {i c : Nat} {p : List Int} (h64 : c ≤ 64) (h : fmOK (fmL i c) p = true) : clB i p = false := by
  have h0 := h
  unfold fmOK at h
  rw [Bool.and_eq_true, decide_eq_true_eq, List.all_eq_true] at h
  have hl := fmF_len c i c (Nat.le_refl _)
  have hv := hlv_le c c h64
  have hp : p.length ≤ 6 := by
    have := h.1
    unfold fmL at this
    omega
  unfold clB
  rw [decide_eq_false (by omega), decide_eq_false (by omega), Bool.false_or, Bool.false_or, List.any_eq_false]
  intro x hx
  obtain ⟨j, hj, rfl⟩ := List.getElem_of_mem hx
  have := chk_el (h.2 j (List.mem_range.2 (by rw [h.1]; exact hj)))
  rw [show p.getD j 0 = p[j] by simp [hj]] at this
  rw [this]
  exact Bool.false_ne_true
theorem ad_zero {m : Mf} {L : List (List Int)} {i : Int} {d p : List Int} (h : adE m L i d p = 0) : slB m L = true ∧ ftB m i d = true ∧ prB m i.toNat L.length d p = true := by
  unfold adE at h
  cases h1 : slB m L
  · rw [if_pos h1] at h; exact absurd h (by decide)
  · rw [if_neg (by rw [h1]; decide)] at h
    cases h2 : ftB m i d
    · rw [if_pos h2] at h; exact absurd h (by decide)
    · rw [if_neg (by rw [h2]; decide)] at h
      cases h3 : prB m i.toNat L.length d p
      · rw [if_pos h3] at h; exact absurd h (by decide)
      · exact ⟨rfl, rfl, rfl⟩
theorem ad_some {m : Mf} {L : List (List Int)} {i : Int} {d p : List Int} (hs : slB m L = true) (h : adE m L i d p ≠ 0) : adE m L i d p = 24 ∨ adE m L i d p = 17 := by
  unfold adE at h ⊢
  rw [if_neg (by rw [hs]; decide)] at h ⊢
  by_cases h2 : ftB m i d = false
  · rw [if_pos h2]; exact .inl rfl
  · rw [if_neg h2] at h ⊢
    by_cases h3 : prB m i.toNat L.length d p = false
    · rw [if_pos h3]; exact .inr rfl
    · rw [if_neg h3] at h; exact absurd rfl h
theorem ft_parts {m : Mf} {i : Int} {d : List Int} (h : ftB m i d = true) : 0 ≤ i ∧ i ≤ m.c - 1 := by
  unfold ftB at h
  rw [Bool.and_eq_true] at h
  exact inB_iff.1 h.1
/-- What a proved piece of a split is. -/
theorem forged_main {key ver s i : Int} {D d p : List Int} (h : spE key ver s D = 0) {n : Nat} (hn : chN D.length s.toNat = n) (ha : adE (spM key ver s D 0) (List.replicate n []) i d p = 0) :
    0 ≤ i ∧ i < n ∧ clB i p = false ∧ (d = (chL s.toNat D).getD i.toNat [] ∨ Cld (clL d i p ++ trL (chL s.toNat D))) := by
  obtain ⟨h1, h2, h3⟩ := ad_zero ha
  obtain ⟨f1, f2⟩ := ft_parts h2
  have e1 : (spM key ver s D 0).c = (n : Int) := by rw [spM_eq, ← hn]
  rw [e1] at f2
  have hn64 : n ≤ 64 := by rw [← hn]; exact (spE_ok h).2.2.2.2.2
  rw [List.length_replicate] at h3
  unfold prB at h3
  rw [Bool.and_eq_true, decide_eq_true_eq] at h3
  have hi : (i.toNat : Int) = i := by omega
  have hb := form_climbs hn64 h3.1
  rw [hi] at hb
  have hL : (chL s.toNat D).length = n := by rw [chL_len, hn]
  have hf := forged_facts (L := chL s.toNat D) (d := d) (p := p) (i := i.toNat) (by omega) (by omega) (by rw [hL]; exact h3.1) (by rw [hi]; exact hb) (by rw [h3.2, spM_eq])
  rw [hi] at hf
  exact ⟨f1, by omega, hb, hf⟩
theorem spP_map (s : Nat) (D : List Int) (n : Nat) : (spP s D n).map Pc.d = (List.range n).map (chk s D) := by
  unfold spP
  rw [List.map_map]
  rfl
theorem spL_map (s : Int) (D : List Int) : (spL s D 0).map Pc.d = chL s.toNat D := by
  unfold spL
  rw [if_pos rfl, spP_map]
  rfl
theorem chL_small {s : Nat} {D x : List Int} (h : x ∈ chL s D) : x.length ≤ s := by
  obtain ⟨j, -, rfl⟩ := List.mem_map.1 h
  rw [chk_len]
  unfold chZ
  omega
/-- The lists of data of the first pieces. -/
def LsI (w0 : World) (base : Nat) (l : List Pc) (k : Nat) (rv : Value) (wr : World) : Prop := ∃ xs, wr.ownsRow base 22 1 rv k xs ∧ ∀ (j : Nat) (x : Pc), l[j]? = some x → j < k → ∃ u, xs[j]? = some u ∧ IntsAt w0 u x.d
theorem LsI.rows {w0 : World} {base : Nat} {l : List Pc} {rv : Value} {wr : World} (h : LsI w0 base l l.length rv wr) (h9 : l.length ≤ 100000) (hb : Below w0.heap.size w0 wr) : RowsAt wr rv (l.map Pc.d) := by
  obtain ⟨xs, h1, h2⟩ := h
  obtain ⟨a, c, rfl⟩ := row_slice h1
  refine ⟨a, c, by rw [List.length_map], by rw [List.length_map]; unfold maxLen; omega, fun hl => ?_⟩
  rcases h1.2 with ⟨-, e⟩ | ⟨g, cap, cur, e, -, -⟩
  · exact absurd (by rw [List.length_eq_zero_iff.1 e]; rfl) hl
  · obtain ⟨rfl, rfl⟩ : a = some ⟨g, 0, none⟩ ∧ c = cap := by simpa using e
    refine ⟨g, 0, rfl, fun i x hi => ?_⟩
    rw [List.getElem?_map] at hi
    cases hq : l[i]? with
    | none => rw [hq] at hi; cases hi
    | some y =>
      rw [hq] at hi
      have hi2 : y.d = x := by simpa using hi
      subst hi2
      obtain ⟨u, e1, e2⟩ := h2 i y hq (List.getElem?_eq_some_iff.1 hq).1
      have := h1.cells (g := g) rfl i u e1
      rw [Go.WideShapes.add_plain] at this
      exact ⟨u, this, e2.step hb⟩
theorem LsI.snoc {w0 : World} {base : Nat} {l : List Pc} {k : Nat} {x : Pc} {u : Value} {wr' : World} {rv' : Value} {xs : List Value} (hx : l[k]? = some x) (hxl : xs.length = k) (h2 : ∀ (j : Nat) (x : Pc), l[j]? = some x → j < k → ∃ u, xs[j]? = some u ∧ IntsAt w0 u x.d) (hu : IntsAt w0 u x.d) (h : wr'.ownsRow base 22 1 rv' (k + 1) (xs ++ [u])) : LsI w0 base l (k + 1) rv' wr' := by
  refine ⟨xs ++ [u], h, fun j y hj hk => ?_⟩
  by_cases e : j = k
  · subst e
    rw [hx] at hj
    cases hj
    exact ⟨u, by rw [← hxl]; simp, hu⟩
  · obtain ⟨z, e1, e2⟩ := h2 j y hj (by omega)
    exact ⟨z, by rw [List.getElem?_append_left (by omega)]; exact e1, e2⟩
theorem pcs_at {w : World} {va : Option Addr} {vc : Nat} {l : List Pc} (h : PcsAt w (.slice va l.length vc) l) {k : Nat} {x : Pc} (hk : l[k]? = some x) : ∃ b off, va = some ⟨b, off, none⟩ ∧ ∃ ya yc pa pc, w.cell? ⟨b, off + k * 3, none⟩ = some (.int .i64 x.i) ∧ w.cell? ⟨b, off + k * 3 + 1, none⟩ = some (.slice ya x.d.length yc) ∧ w.cell? ⟨b, off + k * 3 + 2, none⟩ = some (.slice pa x.p.length pc) ∧ b < w.heap.size ∧ IntsAt w (.slice ya x.d.length yc) x.d ∧ CapI w (.slice pa x.p.length pc) x.p := by
  obtain ⟨a, c, e, -, h⟩ := h
  obtain ⟨b, off, e1, hx⟩ := h (by intro q; rw [q] at hk; simp at hk)
  obtain ⟨u1, u2, g0, g1, g2, g3, g4⟩ := hx k _ hk
  have : va = a := by simp at e; exact e.1
  obtain ⟨ya, yc, rfl, q1, q2⟩ := g3
  obtain ⟨q3, pa, pc, rfl, q4⟩ := g4
  exact ⟨b, off, this.trans e1, ya, yc, pa, pc, g0, g1, g2, World.block_lt_of_cell? _ _ g0, ⟨ya, yc, rfl, q1, q2⟩, q3, pa, pc, rfl, q4⟩
set_option maxRecDepth 100000 in
set_option maxHeartbeats 8000000 in
theorem lists_any (v : Value) (l : List Pc) (w : World) (h : PcsAt w v l) (h9 : l.length ≤ 1000) : Calls Try.prog 28 #[v] w (fun e w' => ∃ u, e = .returned u ∧ RowsAt w' u (l.map Pc.d) ∧ Below w.heap.size w w') := by
  have HP := Lib.hid h
  replace h9 := Lib.hid h9
  obtain ⟨va, vc, rfl, -, -⟩ : ∃ (a : Option Addr) (c : Nat), v = .slice a l.length c ∧ True ∧ True := by
    obtain ⟨a, c, e, -⟩ := h
    exact ⟨a, c, e, trivial, trivial⟩
  clear h
  have H0 := Lib.hid (Below.refl w.heap.size w)
  go_enter Try.func28, Try.ntmps28
  go_wp2_with fail
  obtain ⟨i0, hi0, hz0, hz1, hz2⟩ := info_parts infoSl
  go_loopw [3, 4] (fun rv iv wr => ∃ k : Nat, k ≤ l.length ∧ iv = .int .i64 (k : Int) ∧ Hid (LsI w w.heap.size l k rv wr) ∧ Hid (Below w.heap.size w wr)) (fun _ iv _ => l.length - (intOf iv).toNat)
  case atStart => exact ⟨0, by omega, rfl, Lib.hid ⟨[], World.ownsRow_nil _ _ _ _, fun j x _ h => absurd h (by omega)⟩, Lib.hid (Below.refl _ _)⟩
  case round =>
    obtain ⟨k, hk, rfl, HR0, HW⟩ := hrel
    by_cases hlt : k < l.length
    rotate_left
    · obtain rfl : k = l.length := by omega
      have t3 : ¬ (l.length : Int) < (l.length : Int) := by omega
      go_wp2
      go_ret
      exact ⟨_, rfl, HR0.out.rows (by have := h9.out; omega) HW.out, HW.out⟩
    have HIL := Lib.hid hlt
    have HGK := Lib.hid (show l[k]? = some l[k] from List.getElem?_eq_getElem hlt)
    obtain ⟨x, hx⟩ : ∃ z9, l[k] = z9 := ⟨_, rfl⟩
    rw [hx] at HGK
    clear hx
    obtain ⟨xs, hrow, hxs⟩ := HR0.out
    have HRW := Lib.hid hrow
    have HXS := Lib.hid hxs
    clear hrow hxs HR0
    obtain ⟨b, off, rfl, ya, yc, pa, pc, -, x0, -, xz, hy, -⟩ := pcs_at HP.out HGK.out
    have x1 := keep1 HW.out x0
    have xz1 := Nat.lt_of_lt_of_le xz HW.out.size
    have HY := Lib.hid hy
    clear x0 xz hy hk
    have t3 : (k : Int) < (l.length : Int) := by omega
    have g2 : l.length ≤ 1000 := h9.out
    clear hlt
    have HUS := Lib.hid HW.out.size
    go_wp2_with (at_builtin; refine wpList_append_own _ rfl _ _ 25 rfl w.heap.size 22 i0 _ 1 24 Try.underlying25 hi0 hz0 hz1 hz2 rfl (by decide) _ _ _ rfl (HRW.out.alloc _) ⟨wr.heap.size, 0, none⟩ 1 1 [.slice ya x.d.length yc] rfl rfl (cell_one_new _ _ _) (by simp [Value.oneCell']) (by unfold maxLen; omega) (by omega) (by have := HUS.out; simp; omega) ?_; intro v8 w8 ho8 hg8 _; have HR8 := Lib.hid (LsI.snoc HGK.out (by have := HRW.out.1; omega) HXS.out HY.out ho8); have HB8 := Lib.hid (below_own (Nat.le_refl _) HW.out HRW.out hg8); clear ho8 hg8)
    go_roundw
    case rel => exact ⟨k + 1, HIL.out, by go_num, HR8, HB8⟩
    case measure => have := HIL.out; simp [intOf]; omega
theorem eqm_self (m : Mf) (W : World) : (binOp .eql 24 (.agg #[.int .i64 m.v, .int .i64 m.c, .int .i64 m.s, .int .i64 m.r, .int .i64 m.t]) (.agg #[.int .i64 m.v, .int .i64 m.c, .int .i64 m.s, .int .i64 m.r, .int .i64 m.t])).run Try.prog W = .ok (.bool true) W := by
  simp [go_sem]
set_option maxRecDepth 100000 in
set_option maxHeartbeats 8000000 in
theorem same_slot (m : Mf) (v u : Value) (L : List (List Int)) (w : World) (h : RowsAt w v L) (h2 : RowsAt w u L) (h9 : L.length ≤ 1000) : Calls Try.prog 20 #[.agg #[.int .i64 m.v, .int .i64 m.c, .int .i64 m.s, .int .i64 m.r, .int .i64 m.t, v], .agg #[.int .i64 m.v, .int .i64 m.c, .int .i64 m.s, .int .i64 m.r, .int .i64 m.t, u]] w fun e w' => e = .returned (.bool true) ∧ Below w.heap.size w w' := by
  have HV := Lib.hid h
  have HU := Lib.hid h2
  replace h9 := Lib.hid h9
  obtain ⟨va, vc, rfl, -, -⟩ := h
  obtain ⟨ua, uc, rfl, -, -⟩ := h2
  have H0 := Lib.hid (Below.refl w.heap.size w)
  have H1 := Lib.hid (keep2 (al w (.cells #[.int .i64 m.v, .int .i64 m.c, .int .i64 m.s, .int .i64 m.r, .int .i64 m.t, .slice va L.length vc] 27)) H0.out)
  clear H0
  have H2 := Lib.hid (Cs.new w (w.heap.size) #[.int .i64 m.v, .int .i64 m.c, .int .i64 m.s, .int .i64 m.r, .int .i64 m.t, .slice va L.length vc] 27 (by simp))
  have H3 := Lib.hid (H2.out.step (al (w.alloc (.cells #[.int .i64 m.v, .int .i64 m.c, .int .i64 m.s, .int .i64 m.r, .int .i64 m.t, .slice va L.length vc] 27)) (.cells #[.int .i64 m.v, .int .i64 m.c, .int .i64 m.s, .int .i64 m.r, .int .i64 m.t, .slice ua L.length uc] 27)))
  clear H2
  have H4 := Lib.hid (keep2 (al (w.alloc (.cells #[.int .i64 m.v, .int .i64 m.c, .int .i64 m.s, .int .i64 m.r, .int .i64 m.t, .slice va L.length vc] 27)) (.cells #[.int .i64 m.v, .int .i64 m.c, .int .i64 m.s, .int .i64 m.r, .int .i64 m.t, .slice ua L.length uc] 27)) H1.out)
  clear H1
  have H5 := Lib.hid (Cs.new (w.alloc (.cells #[.int .i64 m.v, .int .i64 m.c, .int .i64 m.s, .int .i64 m.r, .int .i64 m.t, .slice va L.length vc] 27)) (w.heap.size + 1) #[.int .i64 m.v, .int .i64 m.c, .int .i64 m.s, .int .i64 m.r, .int .i64 m.t, .slice ua L.length uc] 27 (by simp))
  go_enter Try.func20, Try.ntmps20
  have xa0 : ((w.alloc (.cells #[.int .i64 m.v, .int .i64 m.c, .int .i64 m.s, .int .i64 m.r, .int .i64 m.t, .slice va L.length vc] 27)).alloc (.cells #[.int .i64 m.v, .int .i64 m.c, .int .i64 m.s, .int .i64 m.r, .int .i64 m.t, .slice ua L.length uc] 27)).cell? ⟨(w.heap.size), 0, none⟩ = some (.int .i64 m.v) := H3.out.c 0 rfl
  have xa1 : ((w.alloc (.cells #[.int .i64 m.v, .int .i64 m.c, .int .i64 m.s, .int .i64 m.r, .int .i64 m.t, .slice va L.length vc] 27)).alloc (.cells #[.int .i64 m.v, .int .i64 m.c, .int .i64 m.s, .int .i64 m.r, .int .i64 m.t, .slice ua L.length uc] 27)).cell? ⟨(w.heap.size), 1, none⟩ = some (.int .i64 m.c) := H3.out.c 1 rfl
  have xa2 : ((w.alloc (.cells #[.int .i64 m.v, .int .i64 m.c, .int .i64 m.s, .int .i64 m.r, .int .i64 m.t, .slice va L.length vc] 27)).alloc (.cells #[.int .i64 m.v, .int .i64 m.c, .int .i64 m.s, .int .i64 m.r, .int .i64 m.t, .slice ua L.length uc] 27)).cell? ⟨(w.heap.size), 2, none⟩ = some (.int .i64 m.s) := H3.out.c 2 rfl
  have xa3 : ((w.alloc (.cells #[.int .i64 m.v, .int .i64 m.c, .int .i64 m.s, .int .i64 m.r, .int .i64 m.t, .slice va L.length vc] 27)).alloc (.cells #[.int .i64 m.v, .int .i64 m.c, .int .i64 m.s, .int .i64 m.r, .int .i64 m.t, .slice ua L.length uc] 27)).cell? ⟨(w.heap.size), 3, none⟩ = some (.int .i64 m.r) := H3.out.c 3 rfl
  have xa4 : ((w.alloc (.cells #[.int .i64 m.v, .int .i64 m.c, .int .i64 m.s, .int .i64 m.r, .int .i64 m.t, .slice va L.length vc] 27)).alloc (.cells #[.int .i64 m.v, .int .i64 m.c, .int .i64 m.s, .int .i64 m.r, .int .i64 m.t, .slice ua L.length uc] 27)).cell? ⟨(w.heap.size), 4, none⟩ = some (.int .i64 m.t) := H3.out.c 4 rfl
  have xa5 : ((w.alloc (.cells #[.int .i64 m.v, .int .i64 m.c, .int .i64 m.s, .int .i64 m.r, .int .i64 m.t, .slice va L.length vc] 27)).alloc (.cells #[.int .i64 m.v, .int .i64 m.c, .int .i64 m.s, .int .i64 m.r, .int .i64 m.t, .slice ua L.length uc] 27)).cell? ⟨(w.heap.size), 5, none⟩ = some (.slice va L.length vc) := H3.out.c 5 rfl
  have za : (w.heap.size) < ((w.alloc (.cells #[.int .i64 m.v, .int .i64 m.c, .int .i64 m.s, .int .i64 m.r, .int .i64 m.t, .slice va L.length vc] 27)).alloc (.cells #[.int .i64 m.v, .int .i64 m.c, .int .i64 m.s, .int .i64 m.r, .int .i64 m.t, .slice ua L.length uc] 27)).heap.size := H3.out.2.2
  have xb0 : ((w.alloc (.cells #[.int .i64 m.v, .int .i64 m.c, .int .i64 m.s, .int .i64 m.r, .int .i64 m.t, .slice va L.length vc] 27)).alloc (.cells #[.int .i64 m.v, .int .i64 m.c, .int .i64 m.s, .int .i64 m.r, .int .i64 m.t, .slice ua L.length uc] 27)).cell? ⟨(w.heap.size + 1), 0, none⟩ = some (.int .i64 m.v) := H5.out.c 0 rfl
  have xb1 : ((w.alloc (.cells #[.int .i64 m.v, .int .i64 m.c, .int .i64 m.s, .int .i64 m.r, .int .i64 m.t, .slice va L.length vc] 27)).alloc (.cells #[.int .i64 m.v, .int .i64 m.c, .int .i64 m.s, .int .i64 m.r, .int .i64 m.t, .slice ua L.length uc] 27)).cell? ⟨(w.heap.size + 1), 1, none⟩ = some (.int .i64 m.c) := H5.out.c 1 rfl
  have xb2 : ((w.alloc (.cells #[.int .i64 m.v, .int .i64 m.c, .int .i64 m.s, .int .i64 m.r, .int .i64 m.t, .slice va L.length vc] 27)).alloc (.cells #[.int .i64 m.v, .int .i64 m.c, .int .i64 m.s, .int .i64 m.r, .int .i64 m.t, .slice ua L.length uc] 27)).cell? ⟨(w.heap.size + 1), 2, none⟩ = some (.int .i64 m.s) := H5.out.c 2 rfl
  have xb3 : ((w.alloc (.cells #[.int .i64 m.v, .int .i64 m.c, .int .i64 m.s, .int .i64 m.r, .int .i64 m.t, .slice va L.length vc] 27)).alloc (.cells #[.int .i64 m.v, .int .i64 m.c, .int .i64 m.s, .int .i64 m.r, .int .i64 m.t, .slice ua L.length uc] 27)).cell? ⟨(w.heap.size + 1), 3, none⟩ = some (.int .i64 m.r) := H5.out.c 3 rfl
  have xb4 : ((w.alloc (.cells #[.int .i64 m.v, .int .i64 m.c, .int .i64 m.s, .int .i64 m.r, .int .i64 m.t, .slice va L.length vc] 27)).alloc (.cells #[.int .i64 m.v, .int .i64 m.c, .int .i64 m.s, .int .i64 m.r, .int .i64 m.t, .slice ua L.length uc] 27)).cell? ⟨(w.heap.size + 1), 4, none⟩ = some (.int .i64 m.t) := H5.out.c 4 rfl
  have xb5 : ((w.alloc (.cells #[.int .i64 m.v, .int .i64 m.c, .int .i64 m.s, .int .i64 m.r, .int .i64 m.t, .slice va L.length vc] 27)).alloc (.cells #[.int .i64 m.v, .int .i64 m.c, .int .i64 m.s, .int .i64 m.r, .int .i64 m.t, .slice ua L.length uc] 27)).cell? ⟨(w.heap.size + 1), 5, none⟩ = some (.slice ua L.length uc) := H5.out.c 5 rfl
  have zb : (w.heap.size + 1) < ((w.alloc (.cells #[.int .i64 m.v, .int .i64 m.c, .int .i64 m.s, .int .i64 m.r, .int .i64 m.t, .slice va L.length vc] 27)).alloc (.cells #[.int .i64 m.v, .int .i64 m.c, .int .i64 m.s, .int .i64 m.r, .int .i64 m.t, .slice ua L.length uc] 27)).heap.size := H5.out.2.2
  have q24 : ∀ (W : World), (binOp .eql 24 (.agg #[.int .i64 m.v, .int .i64 m.c, .int .i64 m.s, .int .i64 m.r, .int .i64 m.t]) (.agg #[.int .i64 m.v, .int .i64 m.c, .int .i64 m.s, .int .i64 m.r, .int .i64 m.t])).run Try.prog W = .ok (.bool true) W := eqm_self m
  go_wp2_with fail
  refine (rrows_any _ _ L _ (HV.out.step H4.out) (HU.out.step H4.out) h9.out).mono ?_
  rintro e u1 ⟨rfl, b1⟩
  clear xa0 xa1 xa2 xa3 xa4 xa5 za xb0 xb1 xb2 xb3 xb4 xb5 zb
  have H6 := Lib.hid (H3.out.step b1)
  clear H3
  have H7 := Lib.hid (H5.out.step b1)
  clear H5
  have H8 := Lib.hid (keep2 b1 H4.out)
  clear H4
  clear b1
  go_wp2
  go_ret
  exact ⟨rfl, H8.out⟩
end Go.Proofs.Yteodafhgfcbdpaa
