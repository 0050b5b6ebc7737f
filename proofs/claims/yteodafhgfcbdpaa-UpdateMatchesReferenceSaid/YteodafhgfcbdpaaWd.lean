import Derived.Test.YteodafhgfcbdpaaLb
import Derived.Test.YteodafhgfcbdpaaUn
import Derived.Test.YteodafhgfcbdpaaRb
import Derived.Test.YteodafhgfcbdpaaUl
import Derived.Test.YteodafhgfcbdpaaUm
import Derived.Test.YteodafhgfcbdpaaUd
import Derived.Test.YteodafhgfcbdpaaUi
namespace Go.Proofs.Yteodafhgfcbdpaa
open Go.RowKit

/-- The lists of data of the first pieces. -/
def LsI (w0 : World) (base : Nat) (l : List Pc) (k : Nat) (rv : Value) (wr : World) : Prop := ∃ xs, wr.ownsRow base 22 1 rv k xs ∧ ∀ (j : Nat) (x : Pc), l[j]? = some x → j < k → ∃ u, xs[j]? = some u ∧ IntsAt w0 u x.d
theorem LsI.rows {w0 : World} {base : Nat} {l : List Pc} {rv : Value} {wr : World} (h : LsI w0 base l l.length rv wr) (h9 : l.length ≤ 100000) (hb : Below w0.heap.size w0 wr) : RowsAt wr rv (l.map Pc.d) := by
  obtain ⟨xs, h1, h2⟩ := h
  obtain ⟨a, c, rfl⟩ := row_slice h1
  refine ⟨a, c, by rw [List.length_map], by rw [List.length_map]; unfold maxLen; omega, fun hl => ?_⟩
  rcases h1.2 with ⟨-, e⟩ | ⟨g, cap, cur, e, -, -⟩
  · exact absurd (by rw [List.length_eq_zero_iff.1 e]; rfl) hl
  · obtain ⟨rfl, rfl⟩ : a = some ⟨g, 0, none⟩ ∧ c = cap := by simpa using e
    refine ⟨g, 0, rfl, fun i x hi => ?_⟩
    rw [List.getElem?_map] at hi
    cases hq : l[i]? with
    | none => rw [hq] at hi; cases hi
    | some y =>
      rw [hq] at hi
      have hi2 : y.d = x := by simpa using hi
      subst hi2
      obtain ⟨u, e1, e2⟩ := h2 i y hq (List.getElem?_eq_some_iff.1 hq).1
      have := h1.cells (g := g) rfl i u e1
      rw [Go.WideShapes.add_plain] at this
      exact ⟨u, this, e2.step hb⟩
theorem LsI.snoc {w0 : World} {base : Nat} {l : List Pc} {k : Nat} {x : Pc} {u : Value} {wr' : World} {rv' : Value} {xs : List Value} (hx : l[k]? = some x) (hxl : xs.length = k) (h2 : ∀ (j : Nat) (x : Pc), l[j]? = some x → j < k → ∃ u, xs[j]? = some u ∧ IntsAt w0 u x.d) (hu : IntsAt w0 u x.d) (h : wr'.ownsRow base 22 1 rv' (k + 1) (xs ++ [u])) : LsI w0 base l (k + 1) rv' wr' := by
  refine ⟨xs ++ [u], h, fun j y hj hk => ?_⟩
  by_cases e : j = k
  · subst e
    rw [hx] at hj
    cases hj
    exact ⟨u, by rw [← hxl]; simp, hu⟩
  · obtain ⟨z, e1, e2⟩ := h2 j y hj (by omega)
    exact ⟨z, by rw [List.getElem?_append_left (by omega)]; exact e1, e2⟩
theorem eqm_self (m : Mf) (W : World) : (binOp .eql 24 (.agg #[.int .i64 m.v, .int .i64 m.c, .int .i64 m.s, .int .i64 m.r, .int .i64 m.t]) (.agg #[.int .i64 m.v, .int .i64 m.c, .int .i64 m.s, .int .i64 m.r, .int .i64 m.t])).run Try.prog W = .ok (.bool true) W := by
  simp [go_sem]
set_option maxRecDepth 100000 in
set_option maxHeartbeats 8000000 in
theorem same_slot (m : Mf) (v u : Value) (L : List (List Int)) (w : World) (h : RowsAt w v L) (h2 : RowsAt w u L) (h9 : L.length ≤ 1000) : Calls Try.prog 20 #[.agg #[.int .i64 m.v, .int .i64 m.c, .int .i64 m.s, .int .i64 m.r, .int .i64 m.t, v], .agg #[.int .i64 m.v, .int .i64 m.c, .int .i64 m.s, .int .i64 m.r, .int .i64 m.t, u]] w fun e w' => e = .returned (.bool true) ∧ Below w.heap.size w w' := by
  have HV := Lib.hid h
  have HU := Lib.hid h2
  replace h9 := Lib.hid h9
  obtain ⟨va, vc, rfl, -, -⟩ := h
  obtain ⟨ua, uc, rfl, -, -⟩ := h2
  have H0 := Lib.hid (Below.refl w.heap.size w)
  have H1 := Lib.hid (keep2 (al w (.cells #[.int .i64 m.v, .int .i64 m.c, .int .i64 m.s, .int .i64 m.r, .int .i64 m.t, .slice va L.length vc] 27)) H0.out)
  clear H0
  have H2 := Lib.hid (Cs.new w (w.heap.size) #[.int .i64 m.v, .int .i64 m.c, .int .i64 m.s, .int .i64 m.r, .int .i64 m.t, .slice va L.length vc] 27 (by simp))
  have H3 := Lib.hid (H2.out.step (al (w.alloc (.cells #[.int .i64 m.v, .int .i64 m.c, .int .i64 m.s, .int .i64 m.r, .int .i64 m.t, .slice va L.length vc] 27)) (.cells #[.int .i64 m.v, .int .i64 m.c, .int .i64 m.s, .int .i64 m.r, .int .i64 m.t, .slice ua L.length uc] 27)))
  clear H2
  have H4 := Lib.hid (keep2 (al (w.alloc (.cells #[.int .i64 m.v, .int .i64 m.c, .int .i64 m.s, .int .i64 m.r, .int .i64 m.t, .slice va L.length vc] 27)) (.cells #[.int .i64 m.v, .int .i64 m.c, .int .i64 m.s, .int .i64 m.r, .int .i64 m.t, .slice ua L.length uc] 27)) H1.out)
  clear H1
  have H5 := Lib.hid (Cs.new (w.alloc (.cells #[.int .i64 m.v, .int .i64 m.c, .int .i64 m.s, .int .i64 m.r, .int .i64 m.t, .slice va L.length vc] 27)) (w.heap.size + 1) #[.int .i64 m.v, .int .i64 m.c, .int .i64 m.s, .int .i64 m.r, .int .i64 m.t, .slice ua L.length uc] 27 (by simp))
  go_enter Try.func20, Try.ntmps20
  have xa0 : ((w.alloc (.cells #[.int .i64 m.v, .int .i64 m.c, .int .i64 m.s, .int .i64 m.r, .int .i64 m.t, .slice va L.length vc] 27)).alloc (.cells #[.int .i64 m.v, .int .i64 m.c, .int .i64 m.s, .int .i64 m.r, .int .i64 m.t, .slice ua L.length uc] 27)).cell? ⟨(w.heap.size), 0, none⟩ = some (.int .i64 m.v) := H3.out.c 0 rfl
  have xa1 : ((w.alloc (.cells #[.int .i64 m.v, .int .i64 m.c, .int .i64 m.s, .int .i64 m.r, .int .i64 m.t, .slice va L.length vc] 27)).alloc (.cells #[.int .i64 m.v, .int .i64 m.c, .int .i64 m.s, .int .i64 m.r, .int .i64 m.t, .slice ua L.length uc] 27)).cell? ⟨(w.heap.size), 1, none⟩ = some (.int .i64 m.c) := H3.out.c 1 rfl
  have xa2 : ((w.alloc (.cells #[.int .i64 m.v, .int .i64 m.c, .int .i64 m.s, .int .i64 m.r, .int .i64 m.t, .slice va L.length vc] 27)).alloc (.cells #[.int .i64 m.v, .int .i64 m.c, .int .i64 m.s, .int .i64 m.r, .int .i64 m.t, .slice ua L.length uc] 27)).cell? ⟨(w.heap.size), 2, none⟩ = some (.int .i64 m.s) := H3.out.c 2 rfl
  have xa3 : ((w.alloc (.cells #[.int .i64 m.v, .int .i64 m.c, .int .i64 m.s, .int .i64 m.r, .int .i64 m.t, .slice va L.length vc] 27)).alloc (.cells #[.int .i64 m.v, .int .i64 m.c, .int .i64 m.s, .int .i64 m.r, .int .i64 m.t, .slice ua L.length uc] 27)).cell? ⟨(w.heap.size), 3, none⟩ = some (.int .i64 m.r) := H3.out.c 3 rfl
  have xa4 : ((w.alloc (.cells #[.int .i64 m.v, .int .i64 m.c, .int .i64 m.s, .int .i64 m.r, .int .i64 m.t, .slice va L.length vc] 27)).alloc (.cells #[.int .i64 m.v, .int .i64 m.c, .int .i64 m.s, .int .i64 m.r, .int .i64 m.t, .slice ua L.length uc] 27)).cell? ⟨(w.heap.size), 4, none⟩ = some (.int .i64 m.t) := H3.out.c 4 rfl
  have xa5 : ((w.alloc (.cells #[.int .i64 m.v, .int .i64 m.c, .int .i64 m.s, .int .i64 m.r, .int .i64 m.t, .slice va L.length vc] 27)).alloc (.cells #[.int .i64 m.v, .int .i64 m.c, .int .i64 m.s, .int .i64 m.r, .int .i64 m.t, .slice ua L.length uc] 27)).cell? ⟨(w.heap.size), 5, none⟩ = some (.slice va L.length vc) := H3.out.c 5 rfl
  have za : (w.heap.size) < ((w.alloc (.cells #[.int .i64 m.v, .int .i64 m.c, .int .i64 m.s, .int .i64 m.r, .int .i64 m.t, .slice va L.length vc] 27)).alloc (.cells #[.int .i64 m.v, .int .i64 m.c, .int .i64 m.s, .int .i64 m.r, .int .i64 m.t, .slice ua L.length uc] 27)).heap.size := H3.out.2.2
  have xb0 : ((w.alloc (.cells #[.int .i64 m.v, .int .i64 m.c, .int .i64 m.s, .int .i64 m.r, .int .i64 m.t, .slice va L.length vc] 27)).alloc (.cells #[.int .i64 m.v, .int .i64 m.c, .int .i64 m.s, .int .i64 m.r, .int .i64 m.t, .slice ua L.length uc] 27)).cell? ⟨(w.heap.size + 1), 0, none⟩ = some (.int .i64 m.v) := H5.out.c 0 rfl
  have xb1 : ((w.alloc (.cells #[.int .i64 m.v, .int .i64 m.c, .int .i64 m.s, .int .i64 m.r, .int .i64 m.t, .slice va L.length vc] 27)).alloc (.cells #[.int .i64 m.v, .int .i64 m.c, .int .i64 m.s, .int .i64 m.r, .int .i64 m.t, .slice ua L.length uc] 27)).cell? ⟨(w.heap.size + 1), 1, none⟩ = some (.int .i64 m.c) := H5.out.c 1 rfl
  have xb2 : ((w.alloc (.cells #[.int .i64 m.v, .int .i64 m.c, .int .i64 m.s, .int .i64 m.r, .int .i64 m.t, .slice va L.length vc] 27)).alloc (.cells #[.int .i64 m.v, .int .i64 m.c, .int .i64 m.s, .int .i64 m.r, .int .i64 m.t, .slice ua L.length uc] 27)).cell? ⟨(w.heap.size + 1), 2, none⟩ = some (.int .i64 m.s) := H5.out.c 2 rfl
  have xb3 : ((w.alloc (.cells #[.int .i64 m.v, .int .i64 m.c, .int .i64 m.s, .int .i64 m.r, .int .i64 m.t, .slice va L.length vc] 27)).alloc (.cells #[.int .i64 m.v, .int .i64 m.c, .int .i64 m.s, .int .i64 m.r, .int .i64 m.t, .slice ua L.length uc] 27)).cell? ⟨(w.heap.size + 1), 3, none⟩ = some (.int .i64 m.r) := H5.out.c 3 rfl
  have xb4 : ((w.alloc (.cells #[.int .i64 m.v, .int .i64 m.c, .int .i64 m.s, .int .i64 m.r, .int .i64 m.t, .slice va L.length vc] 27)).alloc (.cells #[.int .i64 m.v, .int .i64 m.c, .int .i64 m.s, .int .i64 m.r, .int .i64 m.t, .slice ua L.length uc] 27)).cell? ⟨(w.heap.size + 1), 4, none⟩ = some (.int .i64 m.t) := H5.out.c 4 rfl
  have xb5 : ((w.alloc (.cells #[.int .i64 m.v, .int .i64 m.c, .int .i64 m.s, .int .i64 m.r, .int .i64 m.t, .slice va L.length vc] 27)).alloc (.cells #[.int .i64 m.v, .int .i64 m.c, .int .i64 m.s, .int .i64 m.r, .int .i64 m.t, .slice ua L.length uc] 27)).cell? ⟨(w.heap.size + 1), 5, none⟩ = some (.slice ua L.length uc) := H5.out.c 5 rfl
  have zb : (w.heap.size + 1) < ((w.alloc (.cells #[.int .i64 m.v, .int .i64 m.c, .int .i64 m.s, .int .i64 m.r, .int .i64 m.t, .slice va L.length vc] 27)).alloc (.cells #[.int .i64 m.v, .int .i64 m.c, .int .i64 m.s, .int .i64 m.r, .int .i64 m.t, .slice ua L.length uc] 27)).heap.size := H5.out.2.2
  have q24 : ∀ (W : World), (binOp .eql 24 (.agg #[.int .i64 m.v, .int .i64 m.c, .int .i64 m.s, .int .i64 m.r, .int .i64 m.t]) (.agg #[.int .i64 m.v, .int .i64 m.c, .int .i64 m.s, .int .i64 m.r, .int .i64 m.t])).run Try.prog W = .ok (.bool true) W := eqm_self m
  go_wp2_with fail
  refine (rrows_any _ _ L _ (HV.out.step H4.out) (HU.out.step H4.out) h9.out).mono ?_
  rintro e u1 ⟨rfl, b1⟩
  clear xa0 xa1 xa2 xa3 xa4 xa5 za xb0 xb1 xb2 xb3 xb4 xb5 zb
  have H6 := Lib.hid (H3.out.step b1)
  clear H3
  have H7 := Lib.hid (H5.out.step b1)
  clear H5
  have H8 := Lib.hid (keep2 b1 H4.out)
  clear H4
  clear b1
  go_wp2
  go_ret
  exact ⟨rfl, H8.out⟩
open Go.RowKit

def fwB (L : List (List Int)) (d p : List Int) : Bool := !L.any big && (decide (L.length ≤ 70) && (decide (d.length ≤ 40) && decide (p.length ≤ 30)))
theorem fw_parts {L : List (List Int)} {d p : List Int} (h : fwB L d p = true) : (∀ x ∈ L, x.length ≤ 40) ∧ L.length ≤ 70 ∧ d.length ≤ 40 ∧ p.length ≤ 30 := by
  unfold fwB at h
  rw [Bool.and_eq_true, Bool.and_eq_true, Bool.and_eq_true, decide_eq_true_eq, decide_eq_true_eq, decide_eq_true_eq] at h
  obtain ⟨h1, h2, h3, h4⟩ := h
  refine ⟨fun x hx => ?_, h2, h3, h4⟩
  have h5 : L.any big = false := by simpa using h1
  rw [List.any_eq_false] at h5
  have := h5 x hx
  unfold big at this
  simp at this
  omega
set_option maxRecDepth 100000 in
set_option maxHeartbeats 8000000 in
theorem few_any (m : Mf) (v : Value) (L : List (List Int)) (i : Int) (dv : Value) (d : List Int) (pv : Value) (p : List Int) (w : World) (h : RowsAt w v L) (hd : IntsAt w dv d) (hp : IntsAt w pv p) : Calls Try.prog 10 #[.agg #[.int .i64 m.v, .int .i64 m.c, .int .i64 m.s, .int .i64 m.r, .int .i64 m.t, v], .agg #[.int .i64 i, dv, pv]] w fun e w' => e = .returned (.bool (fwB L d p)) ∧ Below w.heap.size w w' := by
  have HL := Lib.hid h
  obtain ⟨va, vc, rfl, hm, -⟩ := h
  obtain ⟨da, dc, rfl, hm1, -⟩ := hd
  obtain ⟨pa, pc, rfl, hm2, -⟩ := hp
  unfold maxLen at hm hm1 hm2
  have HM := Lib.hid hm
  clear hm hm1 hm2
  have H0 := Lib.hid (Below.refl w.heap.size w)
  have H1 := Lib.hid (keep2 (al w (.cells #[.int .i64 m.v, .int .i64 m.c, .int .i64 m.s, .int .i64 m.r, .int .i64 m.t, .slice va L.length vc] 27)) H0.out)
  clear H0
  have H2 := Lib.hid (Cs.new w (w.heap.size) #[.int .i64 m.v, .int .i64 m.c, .int .i64 m.s, .int .i64 m.r, .int .i64 m.t, .slice va L.length vc] 27 (by simp))
  have H3 := Lib.hid (H2.out.step (al (w.alloc (.cells #[.int .i64 m.v, .int .i64 m.c, .int .i64 m.s, .int .i64 m.r, .int .i64 m.t, .slice va L.length vc] 27)) (.cells #[.int .i64 i, .slice da d.length dc, .slice pa p.length pc] 29)))
  clear H2
  have H4 := Lib.hid (keep2 (al (w.alloc (.cells #[.int .i64 m.v, .int .i64 m.c, .int .i64 m.s, .int .i64 m.r, .int .i64 m.t, .slice va L.length vc] 27)) (.cells #[.int .i64 i, .slice da d.length dc, .slice pa p.length pc] 29)) H1.out)
  clear H1
  have H5 := Lib.hid (Cs.new (w.alloc (.cells #[.int .i64 m.v, .int .i64 m.c, .int .i64 m.s, .int .i64 m.r, .int .i64 m.t, .slice va L.length vc] 27)) (w.heap.size + 1) #[.int .i64 i, .slice da d.length dc, .slice pa p.length pc] 29 (by simp))
  go_enter Try.func10, Try.ntmps10
  have xs0 : ((w.alloc (.cells #[.int .i64 m.v, .int .i64 m.c, .int .i64 m.s, .int .i64 m.r, .int .i64 m.t, .slice va L.length vc] 27)).alloc (.cells #[.int .i64 i, .slice da d.length dc, .slice pa p.length pc] 29)).cell? ⟨(w.heap.size), 0, none⟩ = some (.int .i64 m.v) := H3.out.c 0 rfl
  have xs1 : ((w.alloc (.cells #[.int .i64 m.v, .int .i64 m.c, .int .i64 m.s, .int .i64 m.r, .int .i64 m.t, .slice va L.length vc] 27)).alloc (.cells #[.int .i64 i, .slice da d.length dc, .slice pa p.length pc] 29)).cell? ⟨(w.heap.size), 1, none⟩ = some (.int .i64 m.c) := H3.out.c 1 rfl
  have xs2 : ((w.alloc (.cells #[.int .i64 m.v, .int .i64 m.c, .int .i64 m.s, .int .i64 m.r, .int .i64 m.t, .slice va L.length vc] 27)).alloc (.cells #[.int .i64 i, .slice da d.length dc, .slice pa p.length pc] 29)).cell? ⟨(w.heap.size), 2, none⟩ = some (.int .i64 m.s) := H3.out.c 2 rfl
  have xs3 : ((w.alloc (.cells #[.int .i64 m.v, .int .i64 m.c, .int .i64 m.s, .int .i64 m.r, .int .i64 m.t, .slice va L.length vc] 27)).alloc (.cells #[.int .i64 i, .slice da d.length dc, .slice pa p.length pc] 29)).cell? ⟨(w.heap.size), 3, none⟩ = some (.int .i64 m.r) := H3.out.c 3 rfl
  have xs4 : ((w.alloc (.cells #[.int .i64 m.v, .int .i64 m.c, .int .i64 m.s, .int .i64 m.r, .int .i64 m.t, .slice va L.length vc] 27)).alloc (.cells #[.int .i64 i, .slice da d.length dc, .slice pa p.length pc] 29)).cell? ⟨(w.heap.size), 4, none⟩ = some (.int .i64 m.t) := H3.out.c 4 rfl
  have xs5 : ((w.alloc (.cells #[.int .i64 m.v, .int .i64 m.c, .int .i64 m.s, .int .i64 m.r, .int .i64 m.t, .slice va L.length vc] 27)).alloc (.cells #[.int .i64 i, .slice da d.length dc, .slice pa p.length pc] 29)).cell? ⟨(w.heap.size), 5, none⟩ = some (.slice va L.length vc) := H3.out.c 5 rfl
  have zs : (w.heap.size) < ((w.alloc (.cells #[.int .i64 m.v, .int .i64 m.c, .int .i64 m.s, .int .i64 m.r, .int .i64 m.t, .slice va L.length vc] 27)).alloc (.cells #[.int .i64 i, .slice da d.length dc, .slice pa p.length pc] 29)).heap.size := H3.out.2.2
  have xp0 : ((w.alloc (.cells #[.int .i64 m.v, .int .i64 m.c, .int .i64 m.s, .int .i64 m.r, .int .i64 m.t, .slice va L.length vc] 27)).alloc (.cells #[.int .i64 i, .slice da d.length dc, .slice pa p.length pc] 29)).cell? ⟨(w.heap.size + 1), 0, none⟩ = some (.int .i64 i) := H5.out.c 0 rfl
  have xp1 : ((w.alloc (.cells #[.int .i64 m.v, .int .i64 m.c, .int .i64 m.s, .int .i64 m.r, .int .i64 m.t, .slice va L.length vc] 27)).alloc (.cells #[.int .i64 i, .slice da d.length dc, .slice pa p.length pc] 29)).cell? ⟨(w.heap.size + 1), 1, none⟩ = some (.slice da d.length dc) := H5.out.c 1 rfl
  have xp2 : ((w.alloc (.cells #[.int .i64 m.v, .int .i64 m.c, .int .i64 m.s, .int .i64 m.r, .int .i64 m.t, .slice va L.length vc] 27)).alloc (.cells #[.int .i64 i, .slice da d.length dc, .slice pa p.length pc] 29)).cell? ⟨(w.heap.size + 1), 2, none⟩ = some (.slice pa p.length pc) := H5.out.c 2 rfl
  have zp : (w.heap.size + 1) < ((w.alloc (.cells #[.int .i64 m.v, .int .i64 m.c, .int .i64 m.s, .int .i64 m.r, .int .i64 m.t, .slice va L.length vc] 27)).alloc (.cells #[.int .i64 i, .slice da d.length dc, .slice pa p.length pc] 29)).heap.size := H5.out.2.2
  go_wp2_with fail
  clear xs0 xs1 xs2 xs3 xs4 xs5 zs xp0 xp1 xp2 zp
  obtain ⟨W1, hW1⟩ : ∃ z9, ((w.alloc (.cells #[.int .i64 m.v, .int .i64 m.c, .int .i64 m.s, .int .i64 m.r, .int .i64 m.t, .slice va L.length vc] 27)).alloc (.cells #[.int .i64 i, .slice da d.length dc, .slice pa p.length pc] 29)) = z9 := ⟨_, rfl⟩
  rw [hW1] at H3 H5 H4 ⊢
  clear hW1
  go_loopw [5] (fun iv wr => ∃ k : Nat, k ≤ L.length ∧ iv = .int .i64 (k : Int) ∧ Hid (∀ j, j < k → big (L.getD j []) = false) ∧ wr = W1) (fun iv _ => L.length - (intOf iv).toNat)
  case atStart => exact ⟨0, by omega, rfl, Lib.hid (fun j h => absurd h (by omega)), rfl⟩
  case round =>
    obtain ⟨k, hk, rfl, HN, rfl⟩ := hrel
    by_cases hlt : k < L.length
    rotate_left
    · obtain rfl : k = L.length := by omega
      have HA := Lib.hid (big_none HN.out)
      have t3 : ¬ (L.length : Int) < (L.length : Int) := by omega
      have xs0 : wr.cell? ⟨(w.heap.size), 0, none⟩ = some (.int .i64 m.v) := H3.out.c 0 rfl
      have xs1 : wr.cell? ⟨(w.heap.size), 1, none⟩ = some (.int .i64 m.c) := H3.out.c 1 rfl
      have xs2 : wr.cell? ⟨(w.heap.size), 2, none⟩ = some (.int .i64 m.s) := H3.out.c 2 rfl
      have xs3 : wr.cell? ⟨(w.heap.size), 3, none⟩ = some (.int .i64 m.r) := H3.out.c 3 rfl
      have xs4 : wr.cell? ⟨(w.heap.size), 4, none⟩ = some (.int .i64 m.t) := H3.out.c 4 rfl
      have xs5 : wr.cell? ⟨(w.heap.size), 5, none⟩ = some (.slice va L.length vc) := H3.out.c 5 rfl
      have zs : (w.heap.size) < wr.heap.size := H3.out.2.2
      have xp0 : wr.cell? ⟨(w.heap.size + 1), 0, none⟩ = some (.int .i64 i) := H5.out.c 0 rfl
      have xp1 : wr.cell? ⟨(w.heap.size + 1), 1, none⟩ = some (.slice da d.length dc) := H5.out.c 1 rfl
      have xp2 : wr.cell? ⟨(w.heap.size + 1), 2, none⟩ = some (.slice pa p.length pc) := H5.out.c 2 rfl
      have zp : (w.heap.size + 1) < wr.heap.size := H5.out.2.2
      by_cases c1 : L.length ≤ 70
      · have b1 : decide ((L.length : Int) ≤ 70) = true := decide_eq_true (by omega)
        have b1b : decide (L.length ≤ 70) = true := decide_eq_true c1
        by_cases c2 : d.length ≤ 40
        · have b2 : decide ((d.length : Int) ≤ 40) = true := decide_eq_true (by omega)
          have b2b : decide (d.length ≤ 40) = true := decide_eq_true c2
          by_cases c3 : p.length ≤ 30
          · have b3 : decide ((p.length : Int) ≤ 30) = true := decide_eq_true (by omega)
            have b3b : decide (p.length ≤ 30) = true := decide_eq_true c3
            clear c1 c2 c3
            have HR := Lib.hid (show fwB L d p = true by unfold fwB; rw [HA.out, b1b, b2b, b3b]; rfl)
            go_wp2
            go_ret
            exact ⟨ret_bool HR.out.symm, H4.out⟩
          · have b3 : decide ((p.length : Int) ≤ 30) = false := decide_eq_false (by omega)
            have b3b : decide (p.length ≤ 30) = false := decide_eq_false c3
            clear c1 c2 c3
            have HR := Lib.hid (show fwB L d p = false by unfold fwB; rw [HA.out, b1b, b2b, b3b]; rfl)
            go_wp2
            go_ret
            exact ⟨ret_bool HR.out.symm, H4.out⟩
        · have b2 : decide ((d.length : Int) ≤ 40) = false := decide_eq_false (by omega)
          have b2b : decide (d.length ≤ 40) = false := decide_eq_false c2
          clear c1 c2
          have HR := Lib.hid (show fwB L d p = false by unfold fwB; rw [HA.out, b1b, b2b]; rfl)
          go_wp2
          go_ret
          exact ⟨ret_bool HR.out.symm, H4.out⟩
      · have b1 : decide ((L.length : Int) ≤ 70) = false := decide_eq_false (by omega)
        have b1b : decide (L.length ≤ 70) = false := decide_eq_false c1
        clear c1
        have HR := Lib.hid (show fwB L d p = false by unfold fwB; rw [HA.out, b1b]; rfl)
        go_wp2
        go_ret
        exact ⟨ret_bool HR.out.symm, H4.out⟩
    have HIL := Lib.hid hlt
    have HHT := Lib.hid (big_hit (L := L) hlt)
    obtain ⟨bb, off, rfl, ya, yc, x0, xz, -⟩ := rows_at (HL.out.step H4.out) hlt
    have HN2 := Lib.hid (show big (L.getD k []) = false → ∀ j, j < k + 1 → big (L.getD j []) = false from fun hx j h => by
      by_cases e : j = k
      · subst e; exact hx
      · exact HN.out j (by omega))
    have HBG := Lib.hid (show big (L.getD k []) = decide (40 < (L.getD k []).length) from rfl)
    obtain ⟨z, hz⟩ : ∃ z9, (L.getD k []).length = z9 := ⟨_, rfl⟩
    rw [hz] at x0 HBG
    clear hz
    have t3 : (k : Int) < (L.length : Int) := by omega
    have g9 : L.length ≤ 9223372036854775807 := by have := HM.out; omega
    clear hlt hk
    have xs0 : wr.cell? ⟨(w.heap.size), 0, none⟩ = some (.int .i64 m.v) := H3.out.c 0 rfl
    have xs1 : wr.cell? ⟨(w.heap.size), 1, none⟩ = some (.int .i64 m.c) := H3.out.c 1 rfl
    have xs2 : wr.cell? ⟨(w.heap.size), 2, none⟩ = some (.int .i64 m.s) := H3.out.c 2 rfl
    have xs3 : wr.cell? ⟨(w.heap.size), 3, none⟩ = some (.int .i64 m.r) := H3.out.c 3 rfl
    have xs4 : wr.cell? ⟨(w.heap.size), 4, none⟩ = some (.int .i64 m.t) := H3.out.c 4 rfl
    have xs5 : wr.cell? ⟨(w.heap.size), 5, none⟩ = some (.slice (some ⟨bb, off, none⟩) L.length vc) := H3.out.c 5 rfl
    have zs : (w.heap.size) < wr.heap.size := H3.out.2.2
    have xp0 : wr.cell? ⟨(w.heap.size + 1), 0, none⟩ = some (.int .i64 i) := H5.out.c 0 rfl
    have xp1 : wr.cell? ⟨(w.heap.size + 1), 1, none⟩ = some (.slice da d.length dc) := H5.out.c 1 rfl
    have xp2 : wr.cell? ⟨(w.heap.size + 1), 2, none⟩ = some (.slice pa p.length pc) := H5.out.c 2 rfl
    have zp : (w.heap.size + 1) < wr.heap.size := H5.out.2.2
    by_cases c1 : 40 < z
    · have b1 : decide ((z : Int) > 40) = true := decide_eq_true (by omega)
      have b2 : decide ((40 : Int) < (z : Int)) = true := b1
      have b3 : decide (40 < z) = true := decide_eq_true c1
      have HA := Lib.hid (HHT.out (by rw [HBG.out]; exact b3))
      have HR := Lib.hid (show fwB L d p = false by unfold fwB; rw [HA.out]; rfl)
      go_wp2
      go_ret
      exact ⟨ret_bool HR.out.symm, H4.out⟩
    · have b1 : decide ((z : Int) > 40) = false := decide_eq_false (by omega)
      have b2 : decide ((40 : Int) < (z : Int)) = false := b1
      have b3 : decide (40 < z) = false := decide_eq_false c1
      have HN3 := Lib.hid (HN2.out (by rw [HBG.out]; exact b3))
      go_wp2
      go_roundw
      case rel => exact ⟨k + 1, HIL.out, by go_num, HN3, trivial⟩
      case measure => have := HIL.out; simp [intOf]; omega
end Go.Proofs.Yteodafhgfcbdpaa
