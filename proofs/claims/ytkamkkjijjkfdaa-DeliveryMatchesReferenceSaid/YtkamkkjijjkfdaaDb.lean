/- Delivery: copied, isValid (any lengths). -/
import Derived.Test.YtkamkkjijjkfdaaDa
namespace Go.Proofs.Ytkamkkjijjkfdaa
open Go.RowKit

/-- A receiver of one's own. -/
def RcS (w : World) (t f dn : Int) (L : List Bool) (l : List Int) (e : Ending) (w' : World) : Prop :=
  ∃ (n uc vc : Nat) (ua va : Option Addr), e = .returned (.pointer (some ⟨n, 0, none⟩)) ∧ w.heap.size ≤ n ∧ Cs w' n #[.int .i64 t, .slice ua L.length uc, .int .i64 f, .slice va l.length vc, .int .i64 dn] ∧ (∀ g, ua = some ⟨g, 0, none⟩ → g ≠ n) ∧ (∀ g, va = some ⟨g, 0, none⟩ → g ≠ n) ∧ (∀ g, va = some ⟨g, 0, none⟩ → ua ≠ some ⟨g, 0, none⟩) ∧
    w'.ownsRow w.heap.size 4 1 (.slice ua L.length uc) L.length (L.map Value.bool) ∧ w'.ownsRow w.heap.size 3 1 (.slice va l.length vc) l.length (l.map (Value.int .i64)) ∧ Below w.heap.size w w'
theorem row_base {w : World} {base b2 e s : Nat} {v : Value} {n : Nat} {xs : List Value} (h : w.ownsRow base e s v n xs) (hb : b2 ≤ base) : w.ownsRow b2 e s v n xs := by
  refine ⟨h.1, ?_⟩
  rcases h.2 with h0 | ⟨g, cap, cur, h1, h2, h3, h4⟩
  · exact .inl h0
  · exact .inr ⟨g, cap, cur, h1, Nat.le_trans hb h2, h3, h4⟩
theorem row_lt {w : World} {base e s n c m g : Nat} {a : Option Addr} {xs : List Value} (h : w.ownsRow base e s (.slice a n c) m xs) (ha : a = some ⟨g, 0, none⟩) : base ≤ g ∧ g < w.heap.size := by
  subst ha
  rcases h.2 with ⟨e, -⟩ | ⟨g', cp, cur, e, h1, h2, -⟩
  · cases e
  · obtain ⟨rfl, -, -⟩ : g = g' ∧ n = m ∧ c = cp := by simpa using e
    exact ⟨h1, (Array.getElem?_eq_some_iff.1 h2).1⟩
theorem RcS.mk {w w1 w2 : World} {t f dn : Int} {L : List Bool} {l : List Int} {b1 b2 uc vc : Nat} {ua va : Option Addr} (hb : Below w.heap.size w w2) (hu : w2.ownsRow b1 4 1 (.slice ua L.length uc) L.length (L.map Value.bool)) (h1 : w.heap.size ≤ b1) (hv : w2.ownsRow b2 3 1 (.slice va l.length vc) l.length (l.map (Value.int .i64))) (h2 : w.heap.size ≤ b2) (hx : w1.ownsRow b1 4 1 (.slice ua L.length uc) L.length (L.map Value.bool)) (h3 : w1.heap.size ≤ b2) (n : Nat) (hn : n = w2.heap.size) :
    RcS w t f dn L l (.returned (.pointer (some ⟨n, 0, none⟩))) (w2.alloc (.cells #[.int .i64 t, .slice ua L.length uc, .int .i64 f, .slice va l.length vc, .int .i64 dn] 68)) :=
  by
  subst hn
  exact ⟨_, uc, vc, ua, va, rfl, hb.size, Cs.new w2 _ _ 68 rfl, fun g hg => (by have := (row_lt hu hg).2; omega), fun g hg => (by have := (row_lt hv hg).2; omega), fun g hg e => (by have := (row_lt hv hg).1; have := (row_lt hx e).2; omega), row_step (row_base hu h1) (al _ _), row_step (row_base hv h2) (al _ _), hb.alloc hb.size _⟩
set_option maxRecDepth 100000 in
set_option maxHeartbeats 4000000 in
theorem copied_any (t f dn : Int) (s v : Value) (L : List Bool) (l : List Int) (w : World) (hs : BosAt w s L) (hv : IntsAt w v l) (hl : L.length ≤ 100000) (h9 : l.length ≤ 100000) :
    Calls Try.prog 32 #[.agg #[.int .i64 t, s, .int .i64 f, v, .int .i64 dn]] w (RcS w t f dn L l) := by
  have HC0 := Lib.hid (Cs.new w w.heap.size #[.int .i64 t, s, .int .i64 f, v, .int .i64 dn] 30 rfl)
  have HB0 := Lib.hid (al w (.cells #[.int .i64 t, s, .int .i64 f, v, .int .i64 dn] 30))
  have HS0 := Lib.hid (hs.step HB0.out)
  have HV0 := Lib.hid hv
  have HL := Lib.hid hl
  have H9 := Lib.hid h9
  clear hs hv hl h9
  go_enter Try.func32, Try.ntmps32
  go_wp2_with fail
  refine (bo_clone s L _ HS0.out HL.out).mono ?_
  rintro e w1 ⟨u, rfl, hu, b1⟩
  obtain ⟨ua, uc, rfl⟩ := row_slice hu
  have HU1 := Lib.hid (show w1.ownsRow (w.heap.size + 1) 4 1 (.slice ua L.length uc) L.length (L.map Value.bool) from by simpa using hu)
  clear hu
  have HC1 := Lib.hid (HC0.out.step b1)
  have HB1 := Lib.hid (keep2 b1 HB0.out)
  clear b1 HC0 HB0 HS0
  have c0 : w1.cell? ⟨w.heap.size, 0, none⟩ = some (.int .i64 t) := HC1.out.c 0 rfl
  have c1 : w1.cell? ⟨w.heap.size, 1, none⟩ = some s := HC1.out.c 1 rfl
  have c2 : w1.cell? ⟨w.heap.size, 2, none⟩ = some (.int .i64 f) := HC1.out.c 2 rfl
  have c3 : w1.cell? ⟨w.heap.size, 3, none⟩ = some v := HC1.out.c 3 rfl
  have c4 : w1.cell? ⟨w.heap.size, 4, none⟩ = some (.int .i64 dn) := HC1.out.c 4 rfl
  have f1 := HC1.out.f 1 (by simp)
  have f3 := HC1.out.f 3 (by simp)
  have HC2 := Lib.hid (Cs.set HC1.out 1 (by simp) (.slice ua L.length uc) (vs' := #[.int .i64 t, .slice ua L.length uc, .int .i64 f, v, .int .i64 dn]) rfl)
  have HU2 := Lib.hid (ownsRow_setCell_below HU1.out (a := ⟨w.heap.size, 1, none⟩) (Nat.lt_succ_self _) (.slice ua L.length uc))
  have HB2 := Lib.hid (HB1.out.setCell (p := ⟨w.heap.size, 1, none⟩) (Nat.le_refl _) (.slice ua L.length uc))
  have HV2 := Lib.hid (HV0.out.step HB2.out)
  have HZ2 := Lib.hid (show w.heap.size < (w1.setCell ⟨w.heap.size, 1, none⟩ (.slice ua L.length uc)).heap.size from HC2.out.2.2)
  clear HC1 HB1 HU1
  go_wp2_with fail
  refine (in_clone v l _ HV2.out H9.out).mono ?_
  rintro e w3 ⟨y, rfl, hy, b3⟩
  obtain ⟨va, vc, rfl⟩ := row_slice hy
  have HY3 := Lib.hid hy
  have HC3 := Lib.hid (HC2.out.step b3)
  have HB3 := Lib.hid (keep2 b3 HB2.out)
  have HU3 := Lib.hid (row_step HU2.out b3)
  clear hy b3 c0 c1 c2 c3 c4 f1 f3
  have c3 : w3.cell? ⟨w.heap.size, 3, none⟩ = some v := HC3.out.c 3 rfl
  have f3 := HC3.out.f 3 (by simp)
  have HC4 := Lib.hid (Cs.set HC3.out 3 (by simp) (.slice va l.length vc) (vs' := #[.int .i64 t, .slice ua L.length uc, .int .i64 f, .slice va l.length vc, .int .i64 dn]) rfl)
  have HU4 := Lib.hid (ownsRow_setCell_below HU3.out (a := ⟨w.heap.size, 3, none⟩) (Nat.lt_succ_self _) (.slice va l.length vc))
  have HY4 := Lib.hid (ownsRow_setCell_below HY3.out (a := ⟨w.heap.size, 3, none⟩) HZ2.out (.slice va l.length vc))
  have HB4 := Lib.hid (HB3.out.setCell (p := ⟨w.heap.size, 3, none⟩) (Nat.le_refl _) (.slice va l.length vc))
  have k0 : (w3.setCell ⟨w.heap.size, 3, none⟩ (.slice va l.length vc)).cell? ⟨w.heap.size, 0, none⟩ = some (.int .i64 t) := HC4.out.c 0 rfl
  have k1 : (w3.setCell ⟨w.heap.size, 3, none⟩ (.slice va l.length vc)).cell? ⟨w.heap.size, 1, none⟩ = some (.slice ua L.length uc) := HC4.out.c 1 rfl
  have k2 : (w3.setCell ⟨w.heap.size, 3, none⟩ (.slice va l.length vc)).cell? ⟨w.heap.size, 2, none⟩ = some (.int .i64 f) := HC4.out.c 2 rfl
  have k3 : (w3.setCell ⟨w.heap.size, 3, none⟩ (.slice va l.length vc)).cell? ⟨w.heap.size, 3, none⟩ = some (.slice va l.length vc) := HC4.out.c 3 rfl
  have k4 : (w3.setCell ⟨w.heap.size, 3, none⟩ (.slice va l.length vc)).cell? ⟨w.heap.size, 4, none⟩ = some (.int .i64 dn) := HC4.out.c 4 rfl
  clear HC3 HB3 HU3 HY3 HC4 HC2 HB2 HV2
  go_wp2_with fail
  exact bodyPost_ret (v := .pointer (some ⟨w3.heap.size, 0, none⟩)) (by simp [results, Try.results32, go_sem]) rfl (RcS.mk HB4.out HU4.out (Nat.le_succ _) HY4.out (Nat.le_of_lt HZ2.out) HU2.out (Nat.le_refl _) _ (by simp))
set_option maxRecDepth 100000 in
set_option maxHeartbeats 4000000 in
theorem isValid_any (t f dn : Int) (s v : Value) (l : List Int) (n : Nat) (w : World) (hc : Cs w n #[.int .i64 t, s, .int .i64 f, v, .int .i64 dn]) (hv : IntsAt w v l) :
    Calls Try.prog 50 #[.pointer (some ⟨n, 0, none⟩)] w fun e w' => e = .returned (.bool (inr f 0 1000000000 && (vaB l && inr dn 0 1000001))) ∧ Below w.heap.size w w' := by
  have HC0 := Lib.hid hc
  have HV0 := Lib.hid hv
  have c2 : w.cell? ⟨n, 2, none⟩ = some (.int .i64 f) := hc.c 2 rfl
  have c3 : w.cell? ⟨n, 3, none⟩ = some v := hc.c 3 rfl
  have c4 : w.cell? ⟨n, 4, none⟩ = some (.int .i64 dn) := hc.c 4 rfl
  clear hc hv
  go_enter Try.func50, Try.ntmps50
  go_wp2_with fail
  refine (within2_any f 1000000000 _).mono ?_
  rintro e w' ⟨rfl, rfl⟩
  cases h1 : inr f 0 1000000000
  · go_wp2
    go_ret
    exact ⟨ret_bool (by simp [h1]), Below.refl _ _⟩
  go_wp2_with fail
  refine (areValues_any v l _ HV0.out).mono ?_
  rintro e w1 ⟨rfl, b1⟩
  have HB1 := Lib.hid b1
  have d4 : w1.cell? ⟨n, 4, none⟩ = some (.int .i64 dn) := (HC0.out.step b1).c 4 rfl
  clear b1 c2 c3 c4
  cases h2 : vaB l
  · go_wp2
    go_ret
    exact ⟨ret_bool (by simp [h1, h2]), HB1.out⟩
  go_wp2_with fail
  refine (within2_any dn 1000001 _).mono ?_
  rintro e w' ⟨rfl, rfl⟩
  go_wp2
  go_ret
  exact ⟨ret_bool (by simp [h1, h2]), HB1.out⟩
end Go.Proofs.Ytkamkkjijjkfdaa
