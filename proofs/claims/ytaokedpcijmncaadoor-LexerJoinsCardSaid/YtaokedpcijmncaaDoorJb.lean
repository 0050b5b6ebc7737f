/- The walk of 'LexerJoins'. -/
import Derived.Test.YtaokedpcijmncaaDoorJa
import Derived.Laws.AppendOwnNone
namespace Go.Proofs.YtaokedpcijmncaaDoor
open Go.RowKit Go.Maps

/-- A slice value whose cells are those of some tokens. -/
def SrcAt (B : Nat) (W : World) (v : Value) (l : List Item) : Prop :=
  (v = .slice none 0 0 ∧ l = []) ∨ ∃ g cap, v = .slice (some ⟨g, 0, none⟩) l.length cap ∧ g < B ∧ ∀ j u, (tcells l)[j]? = some u → W.cell? ((⟨g, 0, none⟩ : Addr).add j) = some u
theorem add_block (g j : Nat) : (⟨g, 0, none⟩ : Addr).add j = ⟨g, j, none⟩ := by unfold Addr.add; split <;> simp_all
theorem src_of_row {W : World} {base : Nat} {v : Value} {l : List Item} (h : W.ownsRow base 29 4 v l.length (tcells l)) : SrcAt W.heap.size W v l := by
  rcases h.2 with ⟨rfl, h0⟩ | ⟨g, cap, cur, rfl, hb, hg, _⟩
  · exact .inl ⟨rfl, List.eq_nil_of_length_eq_zero h0⟩
  · exact .inr ⟨g, cap, rfl, (Array.getElem?_eq_some_iff.1 hg).1, fun j u hu => h.cells (g := g) rfl j u hu⟩
theorem SrcAt.below {B B' : Nat} {W W' : World} {v : Value} {l : List Item} (h : SrcAt B W v l) (hb : Below B' W W') (hB : B ≤ B') : SrcAt B W' v l := by
  rcases h with h | ⟨g, cap, rfl, hg, hc⟩
  · exact .inl h
  · refine .inr ⟨g, cap, rfl, hg, fun j u hu => ?_⟩
    have := hc j u hu
    rw [add_block] at this ⊢
    exact (hb.cell (p := ⟨g, j, none⟩) (by show g < B'; omega)).trans this
theorem tcells_one (l : List Item) : ∀ u ∈ tcells l, u.oneCell' = true := by
  intro u hu
  simp only [tcells, List.mem_flatMap] at hu
  obtain ⟨x, _, hx⟩ := hu
  simp only [List.mem_cons, List.not_mem_nil, or_false] at hx
  rcases hx with rfl | rfl | rfl | rfl <;> rfl
theorem tcells_len (l : List Item) : (tcells l).length = l.length * 4 := by
  induction l with
  | nil => rfl
  | cons x l ih =>
    have : tcells (x :: l) = [.int .i64 x.k, .string x.t, .int .i64 x.v, .int .i64 x.at_] ++ tcells l := by simp [tcells]
    rw [this, List.length_append, ih]; simp; omega
theorem tcells_app (a b : List Item) : tcells (a ++ b) = tcells a ++ tcells b := by simp [tcells]
theorem lex_row (s : ByteArray) (w : World) (hs : s.size ≤ 20000) (hT : Tab w) (l : List Item) (hl : its s (gap s 0) = l) (hc : cut 0 l = none) :
    Calls Tryd.prog 10 #[.string s] w fun e w' => ∃ v, e = .returned (.tuple #[v, .int .i64 0, .int .i64 (-1)]) ∧ ToksAt w'.heap.size w' v l ∧ SrcAt w'.heap.size w' v l ∧ Below w.heap.size w w' := by
  subst hl
  refine (lex_any s w hs hT).mono fun e w' h => ?_
  obtain ⟨⟨_, v, he, hr⟩ | ⟨er, off, h, _⟩, hB⟩ := h
  · exact ⟨v, he, toks_of_row hr, src_of_row hr, hB⟩
  · rw [hc] at h; cases h
/-- An empty slice of the call's own. -/
theorem row_empty (W : World) (base : Nat) (hb : base ≤ W.heap.size) : (W.alloc (.cells #[] 29)).ownsRow base 29 4 (.slice (some ⟨W.heap.size, 0, none⟩) 0 0) 0 [] :=
  ⟨rfl, .inr ⟨W.heap.size, 0, #[], rfl, hb, World.alloc_heap_new W _, Nat.le_refl _, by unfold maxLen; omega, rfl, rfl⟩⟩
/-- Tokens, the first k of others behind them at other offsets. -/
def wantL (la lb : List Item) (a k : Nat) : List Item := la ++ (lb.take k).map (shift a)
theorem wantL_step (la lb : List Item) (a k : Nat) (x : Item) (h : lb[k]? = some x) : wantL la lb a (k + 1) = wantL la lb a k ++ [shift a x] := by
  have hk : k < lb.length := by
    apply Classical.byContradiction; intro hn
    rw [List.getElem?_eq_none (by omega)] at h; cases h
  have hx : lb[k] = x := by rw [List.getElem?_eq_getElem hk] at h; simpa using h
  unfold wantL
  rw [List.take_succ_eq_append_getElem hk, List.map_append, hx, List.append_assoc]; rfl

theorem cell_four_at (W : World) (n : Nat) (hn : n = W.heap.size) (a b c d : Value) (T : TypeId) : ∀ j u, [a, b, c, d][j]? = some u → (W.alloc (.cells #[a, b, c, d] T)).cell? ((⟨n, 0, none⟩ : Addr).add j) = some u := by
  subst hn; exact cell_four_new W a b c d T
theorem wcells_step (la lb : List Item) (n k : Nat) (x : Item) (h : lb[k]? = some x) : tcells (wantL la lb (n + 1) (k + 1)) = tcells (wantL la lb (n + 1) k) ++ [.int .i64 x.k, .string x.t, .int .i64 x.v, .int .i64 (x.at_ + n + 1)] := by
  rw [wantL_step la lb (n + 1) k x h, tcells_app]
  congr 1
  show [Value.int .i64 x.k, .string x.t, .int .i64 x.v, .int .i64 (x.at_ + ((n + 1 : Nat) : Int))] = _
  rw [show x.at_ + ((n + 1 : Nat) : Int) = x.at_ + n + 1 by omega]
theorem wlen_step (la lb : List Item) (n k : Nat) (x : Item) (h : lb[k]? = some x) : (wantL la lb n (k + 1)).length = (wantL la lb n k).length + 1 := by
  rw [wantL_step la lb n k x h]; simp
theorem wlen (la lb : List Item) (n k : Nat) (hk : k ≤ lb.length) : (wantL la lb n k).length = la.length + k := by
  unfold wantL; simp; omega
theorem wantL_zero (la lb : List Item) (n : Nat) : wantL la lb n 0 = la := by simp [wantL]
theorem wantL_all (la lb : List Item) (n : Nat) : wantL la lb n lb.length = la ++ lb.map (shift n) := by simp [wantL]

set_option maxRecDepth 100000 in
set_option maxHeartbeats 1600000 in
theorem joins_ok (a b : ByteArray) (w : World) (ha : a.size ≤ 2000) (hb : b.size ≤ 2000) (hT : Tab w) (hca : cut 0 (its a (gap a 0)) = none) (hcb : cut 0 (its b (gap b 0)) = none) :
    Calls Tryd.prog 5 #[.string a, .string b] w fun e w' => e = .returned (.bool true) ∧ Below w.heap.size w w' := by
  have hp := hT.pos
  have hla := items_len a a.size (gap a 0) (by omega)
  have hlb := items_len b b.size (gap b 0) (by omega)
  have HZ := Lib.hid (joinT_ok a b (cut_all 0 _ hca))
  have HN := Lib.hid (joinT_none a b ha hb hca hcb)
  have HSZ := Lib.hid (joinT_size a b)
  have HCA := Lib.hid hca
  have HCB := Lib.hid hcb
  have hz : (⟨#[10]⟩ : ByteArray).size = 1 := rfl
  have hoff : ∀ x ∈ its b (gap b 0), 0 ≤ x.at_ ∧ x.at_ ≤ 2000 := fun x hx => by
    rw [its_list] at hx
    have := lexN_at _ _ _ _ x hx
    rw [show b.data.toList.length = b.size from rfl] at this
    omega
  have HO := Lib.hid hoff
  obtain ⟨i0, hi, hz0, hz1, hz2⟩ := info_parts info29
  clear hca hcb hoff
  go_enter Tryd.func5, Tryd.ntmps5
  go_wp2_with fail
  refine (head_any w hT).mono ?_
  rintro e w1 ⟨rfl, b1⟩
  have hT1 := hT.below b1 hp
  go_wp2_with fail
  refine (lex_row a w1 (by omega) hT1 _ rfl HCA.out).mono ?_
  rintro e w2 ⟨v2, rfl, t2, s2, b2⟩
  have hT2 := hT1.below b2 hT1.pos
  go_wp2_with fail
  refine (lex_row b w2 (by omega) hT2 _ rfl HCB.out).mono ?_
  rintro e w3 ⟨v3, rfl, t3, s3, b3⟩
  have hT3 := hT2.below b3 hT2.pos
  go_wp2_with fail
  refine (lex_row (joinT a b) w3 (by rw [HSZ.out]; omega) hT3 _ HZ.out HN.out).mono ?_
  rintro e w4 ⟨v4, rfl, t4, s4, b4⟩
  generalize its a (gap a 0) = la at *
  generalize its b (gap b 0) = lb at *
  have S2 := s2.below (b3.trans (b4.mono b3.size)) (Nat.le_refl _)
  have hs24 : w2.heap.size ≤ w4.heap.size := Nat.le_trans b3.size b4.size
  have T3 := (t3.below b4 (Nat.le_refl _)).mono b4.size
  have HT4 := Lib.hid t4
  have HB := Lib.hid (((b1.trans (b2.mono b1.size)).trans (b3.mono (Nat.le_trans b1.size b2.size))).trans (b4.mono (Nat.le_trans (Nat.le_trans b1.size b2.size) b3.size)))
  have h0w : w.heap.size ≤ w4.heap.size := HB.out.size
  obtain ⟨a3, c3, rfl, hc3⟩ := T3
  have HC3 := Lib.hid hc3
  obtain ⟨a4, c4, rfl⟩ : ∃ a4 c4, v4 = .slice a4 (la ++ lb.map (shift (a.size + 1))).length c4 := by obtain ⟨x, y, h, _⟩ := t4; exact ⟨x, y, h⟩
  clear t2 t3 t4 s2 s3 s4 b1 b2 b3 b4 hT hT1 hT2 hT3 hc3 HZ HN HCA HCB
  have hre := row_empty w4 w4.heap.size (Nat.le_refl _)
  rcases S2 with ⟨rfl, rfl⟩ | ⟨g2, c2, rfl, hg2, hcs2⟩
  · go_wp2_with (at_builtin; go_must (refine wpList_append_own_none rfl _ _ 23 rfl w4.heap.size 29 i0 4 Tryd.underlying23 hi _ _ _ rfl hre rfl ?_))
    have HOWN : Hid ((w4.alloc (.cells #[] 29)).ownsRow w4.heap.size 29 4 (.slice (some ⟨w4.heap.size, 0, none⟩) 0 0) (wantL [] lb (a.size + 1) 0).length (tcells (wantL [] lb (a.size + 1) 0))) := by rw [wantL_zero]; exact hre
    have HB5 := Lib.hid ((Below.refl w4.heap.size w4).alloc (Nat.le_refl _) (.cells #[] 29))
    clear hre
    go_loopw [15, 16] (fun v i wr => ∃ k : Nat, k ≤ lb.length ∧ i = .int .i64 k ∧ Hid (wr.ownsRow w4.heap.size 29 4 v (wantL [] lb (a.size + 1) k).length (tcells (wantL [] lb (a.size + 1) k))) ∧ Hid (Below w4.heap.size w4 wr)) (fun _ i _ => lb.length - (intOf i).toNat)
    case atStart => exact ⟨0, Nat.zero_le _, rfl, HOWN, HB5⟩
    case round =>
      obtain ⟨k, hk, rfl, HR, HBr⟩ := hrel
      by_cases hlt : k < lb.length
      · have hx : lb[k]? = some lb[k] := List.getElem?_eq_getElem hlt
        obtain ⟨g3, hg3, rfl, hcs3⟩ := HC3.out (by intro h; rw [h] at hlt; simp at hlt)
        obtain ⟨x0, x1, x2, x3⟩ := hcs3 k _ hx
        have hxo := HO.out _ (List.getElem_mem hlt)
        have HWC := Lib.hid (wcells_step [] lb a.size k _ hx)
        have HWL := Lib.hid (wlen_step [] lb (a.size + 1) k _ hx)
        have hwl := wlen [] lb (a.size + 1) k hk
        generalize lb[k] = x at *
        have y0 := (HBr.out.cell (p := ⟨g3, k * 4, none⟩) hg3).trans x0
        have y1 := (HBr.out.cell (p := ⟨g3, k * 4 + 1, none⟩) hg3).trans x1
        have y2 := (HBr.out.cell (p := ⟨g3, k * 4 + 2, none⟩) hg3).trans x2
        have y3 := (HBr.out.cell (p := ⟨g3, k * 4 + 3, none⟩) hg3).trans x3
        obtain ⟨ho0, ho1⟩ := hxo
        have hsr := HBr.out.size
        clear hcs3 hx x0 x1 x2 x3
        go_wp2_with (at_builtin; go_must (refine wpList_append_own _ rfl _ _ 23 rfl w4.heap.size 29 i0 _ 4 40 Tryd.underlying23 hi hz0 hz1 hz2 rfl (by decide) _ _ _ rfl ((HR.out.alloc _).alloc _) ⟨wr.heap.size + 1, 0, none⟩ 1 1 [.int .i64 x.k, .string x.t, .int .i64 x.v, .int .i64 (x.at_ + a.size + 1)] rfl rfl (cell_four_at _ _ (by simp) _ _ _ _ _) (by simp [Value.oneCell']) (by unfold maxLen; omega) (by omega) (by simp; omega) ?_); intro v6 w6 hown6 hgrow6 _)
        have HB6 := Lib.hid (((HBr.out.alloc hsr _).alloc (by simp; omega) _).grown hgrow6 (by simp; omega) (fun j e => (HR.out.lt j e).1))
        have HR6 := Lib.hid hown6
        clear hown6 hgrow6
        go_wp2
        go_roundw
        case rel => exact ⟨k + 1, by omega, by go_num, by rw [HWL.out, HWC.out]; exact HR6, HB6⟩
        case measure => simp [intOf]; omega
      · have hkk : k = lb.length := by omega
        have hall := wantL_all [] lb (a.size + 1)
        have hr := HR.out
        rw [hkk, hall] at hr
        have HWANT := Lib.hid (toks_of_row hr)
        obtain ⟨va, vc, rfl⟩ := row_slice hr
        have hT4 : ToksAt w4.heap.size wr (.slice a4 lb.length c4) ([] ++ lb.map (shift (a.size + 1))) := by
          have := HT4.out.below HBr.out (Nat.le_refl _)
          simpa using this
        have hW2 : ToksAt wr.heap.size wr (.slice va lb.length vc) ([] ++ lb.map (shift (a.size + 1))) := by
          have := HWANT.out
          simpa using this
        have HW2 := Lib.hid hW2
        have HT4' := Lib.hid hT4
        have HEND := Lib.hid (HB.out.trans (HBr.out.mono h0w))
        have hlz : ([] ++ lb.map (shift (a.size + 1))).length ≤ 100000 := by simp; omega
        clear hall hr hT4 hW2
        go_wp2_with (go_at_call 14; go_must (refine (same_true _ _ _ _ _ ([] ++ lb.map (shift (a.size + 1))) hlz HT4'.out HW2.out).mono ?_); rintro e w' ⟨rfl, n, rfl⟩)
        go_ret
        exact ⟨rfl, HEND.out.trans (below_drewN' _ _ n)⟩
  · have hcn : ∀ j u, (tcells la)[j]? = some u → (w4.alloc (.cells #[] 29)).cell? ((⟨g2, 0, none⟩ : Addr).add j) = some u := fun j u hu => by
      have := hcs2 j u hu
      rw [add_block] at this ⊢
      rw [World.cell?_alloc_past _ _ _ (by omega)]
      exact this
    go_wp2_with (at_builtin; go_must (refine wpList_append_own _ rfl _ _ 23 rfl w4.heap.size 29 i0 _ 4 40 Tryd.underlying23 hi hz0 hz1 hz2 rfl (by decide) _ _ _ rfl hre ⟨g2, 0, none⟩ la.length c2 (tcells la) rfl (tcells_len la) hcn (tcells_one la) (by unfold maxLen; omega) (by omega) (by simp) ?_); intro v5 w5 hown5 hgrow5 _)
    have HOWN : Hid (w5.ownsRow w4.heap.size 29 4 v5 (wantL la lb (a.size + 1) 0).length (tcells (wantL la lb (a.size + 1) 0))) := by
      have h5 := hown5
      rw [Nat.zero_add, List.nil_append] at h5
      rw [wantL_zero]; exact h5
    have HB5 := Lib.hid (((Below.refl w4.heap.size w4).alloc (Nat.le_refl _) (.cells #[] 29)).grown hgrow5 (by simp) (fun j e => by have e2 : some w4.heap.size = some j := e; cases e2; exact Nat.le_refl _))
    clear hre hown5 hgrow5 hcn hcs2
    go_loopw [15, 16] (fun v i wr => ∃ k : Nat, k ≤ lb.length ∧ i = .int .i64 k ∧ Hid (wr.ownsRow w4.heap.size 29 4 v (wantL la lb (a.size + 1) k).length (tcells (wantL la lb (a.size + 1) k))) ∧ Hid (Below w4.heap.size w4 wr)) (fun _ i _ => lb.length - (intOf i).toNat)
    case atStart => exact ⟨0, Nat.zero_le _, rfl, HOWN, HB5⟩
    case round =>
      obtain ⟨k, hk, rfl, HR, HBr⟩ := hrel
      by_cases hlt : k < lb.length
      · have hx : lb[k]? = some lb[k] := List.getElem?_eq_getElem hlt
        obtain ⟨g3, hg3, rfl, hcs3⟩ := HC3.out (by intro h; rw [h] at hlt; simp at hlt)
        obtain ⟨x0, x1, x2, x3⟩ := hcs3 k _ hx
        have hxo := HO.out _ (List.getElem_mem hlt)
        have HWC := Lib.hid (wcells_step la lb a.size k _ hx)
        have HWL := Lib.hid (wlen_step la lb (a.size + 1) k _ hx)
        have hwl := wlen la lb (a.size + 1) k hk
        generalize lb[k] = x at *
        have y0 := (HBr.out.cell (p := ⟨g3, k * 4, none⟩) hg3).trans x0
        have y1 := (HBr.out.cell (p := ⟨g3, k * 4 + 1, none⟩) hg3).trans x1
        have y2 := (HBr.out.cell (p := ⟨g3, k * 4 + 2, none⟩) hg3).trans x2
        have y3 := (HBr.out.cell (p := ⟨g3, k * 4 + 3, none⟩) hg3).trans x3
        obtain ⟨ho0, ho1⟩ := hxo
        have hsr := HBr.out.size
        clear hcs3 hx x0 x1 x2 x3
        go_wp2_with (at_builtin; go_must (refine wpList_append_own _ rfl _ _ 23 rfl w4.heap.size 29 i0 _ 4 40 Tryd.underlying23 hi hz0 hz1 hz2 rfl (by decide) _ _ _ rfl ((HR.out.alloc _).alloc _) ⟨wr.heap.size + 1, 0, none⟩ 1 1 [.int .i64 x.k, .string x.t, .int .i64 x.v, .int .i64 (x.at_ + a.size + 1)] rfl rfl (cell_four_at _ _ (by simp) _ _ _ _ _) (by simp [Value.oneCell']) (by unfold maxLen; omega) (by omega) (by simp; omega) ?_); intro v6 w6 hown6 hgrow6 _)
        have HB6 := Lib.hid (((HBr.out.alloc hsr _).alloc (by simp; omega) _).grown hgrow6 (by simp; omega) (fun j e => (HR.out.lt j e).1))
        have HR6 := Lib.hid hown6
        clear hown6 hgrow6
        go_wp2
        go_roundw
        case rel => exact ⟨k + 1, by omega, by go_num, by rw [HWL.out, HWC.out]; exact HR6, HB6⟩
        case measure => simp [intOf]; omega
      · have hkk : k = lb.length := by omega
        have hall := wantL_all la lb (a.size + 1)
        have hr := HR.out
        rw [hkk, hall] at hr
        have HWANT := Lib.hid (toks_of_row hr)
        obtain ⟨va, vc, rfl⟩ := row_slice hr
        have hT4 : ToksAt w4.heap.size wr (.slice a4 (la.length + lb.length) c4) (la ++ lb.map (shift (a.size + 1))) := by
          have := HT4.out.below HBr.out (Nat.le_refl _)
          simpa using this
        have hW2 : ToksAt wr.heap.size wr (.slice va (la.length + lb.length) vc) (la ++ lb.map (shift (a.size + 1))) := by
          have := HWANT.out
          simpa using this
        have HW2 := Lib.hid hW2
        have HT4' := Lib.hid hT4
        have HEND := Lib.hid (HB.out.trans (HBr.out.mono h0w))
        have hlz : (la ++ lb.map (shift (a.size + 1))).length ≤ 100000 := by simp; omega
        clear hall hr hT4 hW2
        go_wp2_with (go_at_call 14; go_must (refine (same_true _ _ _ _ _ (la ++ lb.map (shift (a.size + 1))) hlz HT4'.out HW2.out).mono ?_); rintro e w' ⟨rfl, n, rfl⟩)
        go_ret
        exact ⟨rfl, HEND.out.trans (below_drewN' _ _ n)⟩
end Go.Proofs.YtaokedpcijmncaaDoor
