/- Capabilities: 'Chain'. -/
import Derived.Test.YtoaleijfpocdjaaKf
namespace Go.Proofs.Ytoaleijfpocdjaa
open Go.RowKit
attribute [local go_sem] Oper.semAt_some

theorem genuine_any (key id tag : Int) (v : Value) (l : List Cv) (w : World) (h : CvsAt w v l) : Calls Try.prog 16 #[.int .i64 key, .agg #[.int .i64 id, v, .int .i64 tag]] w fun e w' => e = .returned (.bool (gnB key id tag l)) ∧ Below w.heap.size w w' := by
  cases h1 : inr key 0 2147483646
  · have : gnB key id tag l = false := by unfold gnB; rw [h1]; rfl
    rw [this]; exact genuine_key key id tag v l w h h1
  · cases h2 : capB id tag l
    · have : gnB key id tag l = false := by unfold gnB; rw [h1, h2]; rfl
      rw [this]; exact genuine_cap key id tag v l w h h1 h2
    · have : gnB key id tag l = decide (tk (tg0 key id) l l.length = tag) := by unfold gnB; rw [h1, h2]; rfl
      rw [this]; exact callsIn_wide.1 (genuine_in key id tag v l w h h1 h2)
set_option maxRecDepth 100000 in
set_option maxHeartbeats 4000000 in
theorem appendSeq_in (key id tag : Int) (v : Value) (l : List Cv) (B1 B2 : Nat) (w : World) (h : CvsAt w v l) (h12 : l.length ≤ 12) (h1 : BoxN w B1 #[.int .i64 key] 3) (h2 : BoxN w B2 #[.int .i64 id, v, .int .i64 tag] 30) :
    CallsIn Fence.wide 9 Try.prog 42 #[.slice none 0 0, .func (.func 43) #[] #[.pointer (some ⟨B1, 0, none⟩), .pointer (some ⟨B2, 0, none⟩)]] w fun e w' => ∃ u, e = .returned u ∧ IntsAt w' u (chL (tg0 key id) l) ∧ Below w.heap.size w w' := by
  have H := Lib.hid h
  have H1 := Lib.hid h1
  have H2 := Lib.hid h2
  clear h h1 h2
  obtain ⟨i0, hi, hz0, hz1, hz2⟩ := info_parts infoInt
  refine callsIn_of_wp_marks Try.func42 rfl trivial ?_ rfl
  simp only [Try.ntmps42, List.size_toArray, List.length_cons, List.length_nil, Nat.reduceAdd, Nat.reduceSub, Array.replicate_succ, Array.replicate_zero, List.push_toArray, List.append_toArray, List.nil_append, List.cons_append]
  gi_wp2_with fail
  have b0 := Boxed.new w 27 (.slice none 0 0)
  have hB0 := al w (.cells #[.slice none 0 0] 27)
  have hsz : (w.alloc (.cells #[.slice none 0 0] 27)).heap.size = w.heap.size + 1 := by simp
  have hB2 := H2.out.lt
  obtain ⟨W0, hW0⟩ : ∃ W0, w.alloc (.cells #[.slice none 0 0] 27) = W0 := ⟨_, rfl⟩
  rw [hW0] at b0 hB0 hsz ⊢
  clear hW0
  refine wpIn_rangeFunc_ownG rfl (by omega) (gf := 43) (lb := #[.pointer (some ⟨B1, 0, none⟩), .pointer (some ⟨B2, 0, none⟩)]) rfl trivial (enters_of Try.func43 (by kernel_rfl) rfl)
    (iter_stops key id tag l v w H.out (by omega) 8 (by omega) B1 B2 W0 hB0 (H1.out.step hB0) (H2.out.step hB0)) Keep.trans (fun W l o o' => Keep.putObj (by omega) W l o o') (Below.refl _ _) (fun _ => rfl)
    (fun pre W => (∃ v, Boxed W w.heap.size 27 v ∧ W.ownsRow w.heap.size 3 1 v pre.length (pre.map (Value.int .i64)) ∧ True) ∧ Below w.heap.size w W)
    (fun _ _ _ => False)
    (OwnFrom.and (Own.from (holdsRow_own w.heap.size w.heap.size 27 3 1 (fun pre : List Int => pre.length) (fun pre => pre.map (Value.int .i64)) (fun _ _ => True)) _) (ownFrom_below (Nat.le_refl _) (by omega)))
    (fun _ _ _ _ _ hs _ _ => hs)
    ⟨⟨_, b0, World.ownsRow_nil _ _ _ _, trivial⟩, hB0⟩
    (fun x => { tmps := #[.slice none 0 0, .func (.func 43) #[] #[.pointer (some ⟨B1, 0, none⟩), .pointer (some ⟨B2, 0, none⟩)], .pointer (some ⟨w.heap.size, 0, none⟩), undef, .slice none 0 0, .int .i64 x, .func (.func 43) #[] #[.pointer (some ⟨B1, 0, none⟩), .pointer (some ⟨B2, 0, none⟩)], .int .i64 x, undef, undef, undef, undef, undef], defers := [] }) ?assign ?body ?done ?stop
  case assign =>
    intro lp x W K hK
    gi_wp2
    exact hK
  case body =>
    rintro lp pre x W ⟨⟨v, hv, hrow, -⟩, hB⟩ hlt
    have hc := hv.cell
    have hBs := hB.size
    have HV := Lib.hid hv
    have HR := Lib.hid hrow
    clear hv hrow
    gi_wp2_with (gi_at_builtin; refine wpListIn_append_own _ rfl _ _ 27 rfl w.heap.size 3 i0 (.int .i64 0) 1 8 Try.underlying27 hi hz0 hz1 hz2 rfl (by decide) _ _ _ rfl (HR.out.alloc _) ⟨W.heap.size, 0, none⟩ 1 1 [.int .i64 x] rfl rfl (cell_one_new _ _ _) (by simp [Value.oneCell']) (by unfold maxLen; omega) (by omega) (by simp; omega) ?_; intro v' w1 hown' hgrow _; obtain ⟨g', cap', rfl⟩ := ownsRow_succ hown'; obtain ⟨hv1, hv2, hr2, hk2, hb2⟩ := HV.out.appended (by decide) HR.out hBs (Nat.le_refl _) hown' hgrow; have hc1 := hv1.cell; have hf1 := hv1.frozen; clear hown' hgrow hv1)
    exact ⟨hk2.from _, ⟨hb2, fun o ho _ => (hb2.block B2 hB2).trans ho⟩, ⟨_, hv2, by simpa using hr2, trivial⟩, hB.trans hb2⟩
  case done =>
    rintro D ys W hD hys ⟨⟨v, hv, hrow, -⟩, hB⟩ hK
    have hc := hv.cell
    have HR := Lib.hid hrow
    have HY := Lib.hid hys
    clear hrow hv hys
    gi_wp2
    refine ⟨by simp, .inl ⟨_, _, rfl, run_takeDeferred hK, ?_⟩⟩
    exact ⟨_, results_tmp rfl _ _ _, v, rfl, by rw [← HY.out]; exact ints_of_row (ownsRow_putObj HR.out _ hK rfl), hB.trans (belowK_b (w := w) (Nat.le_refl _) W D _ _ (by omega) hK rfl rfl)⟩
  case stop =>
    rintro D c pre W _ _ h _
    exact h.elim
theorem collect_any (key id tag : Int) (v : Value) (l : List Cv) (B1 B2 : Nat) (w : World) (h : CvsAt w v l) (h12 : l.length ≤ 12) (h1 : BoxN w B1 #[.int .i64 key] 3) (h2 : BoxN w B2 #[.int .i64 id, v, .int .i64 tag] 30) :
    Calls Try.prog 22 #[.func (.func 43) #[] #[.pointer (some ⟨B1, 0, none⟩), .pointer (some ⟨B2, 0, none⟩)]] w fun e w' => ∃ u, e = .returned u ∧ IntsAt w' u (chL (tg0 key id) l) ∧ Below w.heap.size w w' := by
  have H := Lib.hid (callsIn_wide.1 (appendSeq_in key id tag v l B1 B2 w h h12 h1 h2))
  clear h h1 h2
  go_enter Try.func22, Try.ntmps22
  go_wp2_with fail
  refine H.out.mono ?_
  rintro e w1 ⟨u, rfl, hu, b1⟩
  have HU := Lib.hid hu
  have HB := Lib.hid b1
  clear hu b1
  go_wp2
  go_ret
  exact ⟨u, rfl, HU.out, HB.out⟩
/-- What 'Chain' gives. -/
def chB (key id tag : Int) (l : List Cv) : List Int := if gnB key id tag l then chL (tg0 key id) l else []
theorem gn_cap {key id tag : Int} {l : List Cv} (h : gnB key id tag l = true) : capB id tag l = true := by
  unfold gnB at h; simp only [Bool.and_eq_true] at h; exact h.2.1
set_option maxRecDepth 100000 in
set_option maxHeartbeats 2000000 in
theorem chain2_any (key id tag : Int) (v : Value) (l : List Cv) (w : World) (h : CvsAt w v l) : Calls Try.prog 9 #[.int .i64 key, .agg #[.int .i64 id, v, .int .i64 tag]] w fun e w' => ∃ u, e = .returned u ∧ IntsAt w' u (chB key id tag l) ∧ Below w.heap.size w w' := by
  have H := Lib.hid h
  obtain ⟨a, cap, rfl, -, -, -⟩ := h
  have HB0 := Lib.hid (al w (.cells #[.int .i64 id, .slice a l.length cap, .int .i64 tag] 30))
  have KA := Lib.hid (Cs.new w w.heap.size #[.int .i64 id, .slice a l.length cap, .int .i64 tag] 30 rfl)
  cases hg : gnB key id tag l
  · have HR := Lib.hid (show chB key id tag l = [] by unfold chB; rw [hg]; rfl)
    have HG := Lib.hid hg
    clear hg
    go_enter Try.func9, Try.ntmps9
    go_wp2_with fail
    refine (genuine_any key id tag _ l _ (H.out.step HB0.out)).mono ?_
    rintro e w1 ⟨rfl, b1⟩
    rw [HG.out]
    have HB1 := Lib.hid (keep2 b1 HB0.out)
    clear b1
    go_wp2
    go_ret
    exact ⟨_, rfl, by rw [HR.out]; exact ints_nil _, HB1.out⟩
  · have HR := Lib.hid (show chB key id tag l = chL (tg0 key id) l by unfold chB; rw [hg]; rfl)
    have HL := Lib.hid (cap_len (gn_cap hg))
    have HG := Lib.hid hg
    clear hg
    go_enter Try.func9, Try.ntmps9
    go_wp2_with fail
    refine (genuine_any key id tag _ l _ (H.out.step HB0.out)).mono ?_
    rintro e w1 ⟨rfl, b1⟩
    rw [HG.out]
    have HB1 := Lib.hid (keep2 b1 HB0.out)
    have KA1 := Lib.hid (KA.out.step b1)
    clear b1
    have xA0 := KA1.out.c 0 rfl
    have xA1 := KA1.out.c 1 rfl
    have xA2 := KA1.out.c 2 rfl
    have zA := KA1.out.2.2
    go_wp2_with fail
    refine (chain_any key id tag _ _ _ _).mono ?_
    rintro e w2 ⟨rfl, rfl⟩
    have HB2 := Lib.hid (keep2 (al2 (w := w1) (o1 := .cells #[.int .i64 key] 3) (o2 := .cells #[.int .i64 id, .slice a l.length cap, .int .i64 tag] 30)) HB1.out)
    have bK := Lib.hid ((BoxN.new w1 #[.int .i64 key] 3).step (al _ (.cells #[.int .i64 id, .slice a l.length cap, .int .i64 tag] 30)))
    have bC := Lib.hid (show BoxN ((w1.alloc (.cells #[.int .i64 key] 3)).alloc (.cells #[.int .i64 id, .slice a l.length cap, .int .i64 tag] 30)) (w1.heap.size + 1) _ 30 from by
      have := BoxN.new (w1.alloc (.cells #[.int .i64 key] 3)) #[.int .i64 id, .slice a l.length cap, .int .i64 tag] 30
      rwa [World.size_alloc] at this)
    clear xA0 xA1 xA2
    go_wp2_with fail
    refine (collect_any key id tag _ l _ _ _ (H.out.step HB2.out) HL.out bK.out bC.out).mono ?_
    rintro e w3 ⟨u, rfl, hu, b3⟩
    have HU := Lib.hid hu
    have HB3 := Lib.hid (keep2 b3 HB2.out)
    clear hu b3
    go_wp2
    go_ret
    exact ⟨u, rfl, by rw [HR.out]; exact HU.out, HB3.out⟩
end Go.Proofs.Ytoaleijfpocdjaa
