/- 'Back': the contract. -/
import Derived.Test.YtilaiingcddegaaG
import Derived.Maps.AppendAt
import Derived.Shelf.Abstract
import Derived.Shelf.RegionOpen
namespace Go.Proofs.Ytilaiingcddegaa
open Go.RowKit
attribute [local go_sem] Oper.semAt_some

/-- What 'Back' gives. -/
def bkv (l : List Int) : List Int := if rdB l then backL l else []
def BackPost (l : List Int) (w : World) (e : Ending) (w' : World) : Prop := ∃ v, e = .returned v ∧ IntsAt w' v l ∧ Below w.heap.size w w'
theorem BackPost.nil {w w' : World} (h : Below w.heap.size w w') : BackPost [] w (.returned (.slice none 0 0)) w' := ⟨_, rfl, ints_nil _, h⟩
theorem ints_of_row {w : World} {base : Nat} {v : Value} {xs : List Int} (h : w.ownsRow base 3 1 v xs.length (xs.map (Value.int .i64))) : IntsAt w v xs := by
  rcases h.2 with ⟨rfl, hn⟩ | ⟨g, cap, cur, rfl, hbg, hg, hnc, hcm, hcur, htake⟩
  · have : xs = [] := by simpa using hn
    subst this
    exact ints_nil _
  · have hc := h.cells (g := g) rfl
    refine ⟨_, cap, rfl, by omega, fun _ => ⟨g, 0, rfl, fun i x hi => ?_⟩⟩
    have := hc i (.int .i64 x) (by rw [List.getElem?_map, hi]; rfl)
    rwa [Go.WideShapes.add_plain] at this
theorem info3 : (Try.prog.info? 3).map (fun i => (i.zero, i.size, i.bytes)) = some (some (.int .i64 0), 1, 8) := by kernel_rfl

theorem iter_stops (l : List Int) (a : Option Addr) (cap : Nat) (w0 : World) (hl : IntsAt w0 (.slice a l.length cap) l) (hR : inR l = true) (h4 : l.length ≤ 400) (n : Nat) (hn : 1 ≤ n) (Bs : Nat) (w : World) (hB : Below w0.heap.size w0 w) (hBx : Boxed w Bs 24 (.slice a l.length cap)) :
    SeqStopsK Fence.wide n Try.prog 32 #[.pointer (some ⟨Bs, 0, none⟩)] (fun x : Int => #[Value.int .i64 x]) (Keep w0.heap.size Bs) (fun ys => ys = backL l) (fun pre => pre <+: backL l) l.length w := fun lp J Jx W hW _ _ hY h0 =>
  iter1 l _ w0 hl hR h4 n hn lp Bs J Jx hY W (hB.trans (hW.mono hB.size)) ((hW.block Bs hBx.lt).trans hBx) h0

set_option maxRecDepth 100000 in
set_option maxHeartbeats 2000000 in
theorem back_no (v : Value) (l : List Int) (w : World) (h : IntsAt w v l) (hr : rdB l = false) : Calls Try.prog 19 #[v] w (BackPost [] w) := by
  have H := Lib.hid h
  obtain ⟨a, cap, rfl, hm, -⟩ := h
  unfold maxLen at hm
  by_cases h4 : l.length ≤ 400
  · have q : decide (400 < (l.length : Int)) = false := by simp; omega
    have hi := Lib.hid (show inR l = false by unfold rdB at hr; simpa [h4] using hr)
    clear hr h4
    go_enter Try.func19, Try.ntmps19
    go_wp2_with (go_at_call 29; go_must (refine (contains_any _ l _ H.out).mono ?_); rintro e w' ⟨rfl, rfl⟩; rw [hi.out])
    go_ret
    exact BackPost.nil (by repeat (first | with_reducible exact Below.refl _ _ | with_reducible exact Below.refl _ _ | ((with_reducible refine Below.setCell ?_ ?_ _); rotate_left; focus (first | (simp; done) | (simp; omega) | omega)) | ((with_reducible refine Below.alloc ?_ ?_ _); rotate_left; focus (first | (simp; done) | (simp; omega) | omega)) | with_reducible refine Below.trans ?_ (below_drewN' _ _ _) | with_reducible refine Below.trans ?_ (below_drew _ _)))
  · have q : decide (400 < (l.length : Int)) = true := by simp; omega
    clear hr
    go_enter Try.func19, Try.ntmps19
    go_wp2
    go_ret
    exact BackPost.nil (by repeat (first | with_reducible exact Below.refl _ _ | with_reducible exact Below.refl _ _ | ((with_reducible refine Below.setCell ?_ ?_ _); rotate_left; focus (first | (simp; done) | (simp; omega) | omega)) | ((with_reducible refine Below.alloc ?_ ?_ _); rotate_left; focus (first | (simp; done) | (simp; omega) | omega)) | with_reducible refine Below.trans ?_ (below_drewN' _ _ _) | with_reducible refine Below.trans ?_ (below_drew _ _)))

set_option maxRecDepth 100000 in
set_option maxHeartbeats 4000000 in
theorem back_in (v : Value) (l : List Int) (w : World) (h : IntsAt w v l) (hr : rdB l = true) : CallsIn Fence.wide 9 Try.prog 19 #[v] w (BackPost (backL l) w) := by
  have H := Lib.hid h
  obtain ⟨a, cap, rfl, hm, -⟩ := h
  unfold maxLen at hm
  obtain ⟨hi, h4⟩ : inR l = true ∧ l.length ≤ 400 := by unfold rdB at hr; simpa using hr
  have HI := Lib.hid hi
  have q : decide (400 < (l.length : Int)) = false := by simp; omega
  clear hr hi
  obtain ⟨i0, hi, hz0, hz1, hz2⟩ := info_parts info3
  refine callsIn_of_wp_marks Try.func19 rfl trivial ?_ rfl
  simp only [Try.ntmps19, List.size_toArray, List.length_cons, List.length_nil, Nat.reduceAdd, Nat.reduceSub, Array.replicate_succ, Array.replicate_zero, List.push_toArray, List.append_toArray, List.nil_append, List.cons_append]
  gi_wp2_with (first
    | (refine ⟨trivial, ?_⟩; gi_at_call 29; refine (callsIn_wide.2 (contains_any _ l _ H.out)).mono ?_; rintro e w' ⟨rfl, rfl⟩; rw [HI.out])
    | (refine ⟨trivial, ?_⟩; gi_at_call 30; refine (callsIn_wide.2 (corrected_any _ _ _ _)).mono ?_; rintro e w' ⟨rfl, rfl⟩))
  have b0 := (Boxed.new w 24 (.slice none 0 0)).alloc (.cells #[.slice a l.length cap] 24)
  have b1 := Boxed.new (w.alloc (.cells #[.slice none 0 0] 24)) 24 (.slice a l.length cap)
  rw [World.size_alloc] at b1
  have hB0 : Below w.heap.size w ((w.alloc (.cells #[.slice none 0 0] 24)).alloc (.cells #[.slice a l.length cap] 24)) := al2
  have hsz : ((w.alloc (.cells #[.slice none 0 0] 24)).alloc (.cells #[.slice a l.length cap] 24)).heap.size = w.heap.size + 2 := by simp
  obtain ⟨W0, hW0⟩ : ∃ W0, (w.alloc (.cells #[.slice none 0 0] 24)).alloc (.cells #[.slice a l.length cap] 24) = W0 := ⟨_, rfl⟩
  rw [hW0] at b0 b1 hB0 hsz ⊢
  clear hW0
  refine wpIn_rangeFunc_ownG rfl (by omega) (gf := 32) (lb := #[.pointer (some ⟨w.heap.size + 1, 0, none⟩)]) rfl trivial (enters_of Try.func32 (by kernel_rfl) rfl)
    (iter_stops l a cap w H.out HI.out h4 8 (by omega) (w.heap.size + 1) W0 hB0 b1) Keep.trans (fun W l o o' => Keep.putObj (by omega) W l o o') (Below.refl _ _) (fun _ => rfl)
    (fun pre W => ((∃ v, Boxed W w.heap.size 24 v ∧ W.ownsRow w.heap.size 3 1 v pre.length (pre.map (Value.int .i64)) ∧ True) ∧ Boxed W (w.heap.size + 1) 24 (.slice a l.length cap)) ∧ Below w.heap.size w W)
    (fun _ _ _ => False)
    (OwnFrom.and (OwnFrom.and (Own.from (holdsRow_own w.heap.size w.heap.size 24 3 1 (fun pre : List Int => pre.length) (fun pre => pre.map (Value.int .i64)) (fun _ _ => True)) _) (Own.from (boxed_own _ _ _) _)) (ownFrom_below (Nat.le_refl _) (by omega)))
    (fun _ _ _ _ _ hs _ _ => hs)
    ⟨⟨⟨_, b0, World.ownsRow_nil _ _ _ _, trivial⟩, b1⟩, hB0⟩
    (fun x => { tmps := #[.slice a l.length cap, undef, .slice none 0 0, .func (.func 27) #[] #[], .pointer (some ⟨w.heap.size, 0, none⟩), .int .i64 x, .slice a l.length cap, .int .i64 l.length, .bool false, .bool false, .slice a l.length cap, .func (.func 27) #[] #[], .bool false, .bool false, .slice a l.length cap, .func (.func 32) #[] #[.pointer (some ⟨w.heap.size + 1, 0, none⟩)], .int .i64 x, undef, undef, undef, undef, undef], defers := [] }) ?assign ?body ?done ?stop
  case assign =>
    intro lp x W K hK
    gi_wp2
    exact hK
  case body =>
    rintro lp pre x W ⟨⟨⟨v, hv, hrow, -⟩, c1⟩, hB⟩ hlt
    have hc := hv.cell
    have hBs := hB.size
    have HV := Lib.hid hv
    have HR := Lib.hid hrow
    have C1 := Lib.hid c1
    clear hv hrow c1
    gi_wp2_with (gi_at_builtin; refine wpListIn_append_own _ rfl _ _ 24 rfl w.heap.size 3 i0 (.int .i64 0) 1 8 Try.underlying24 hi hz0 hz1 hz2 rfl (by decide) _ _ _ rfl (HR.out.alloc _) ⟨W.heap.size, 0, none⟩ 1 1 [.int .i64 x] rfl rfl (cell_one_new _ _ _) (by simp [Value.oneCell']) (by unfold maxLen; omega) (by omega) (by simp; omega) ?_; intro v' w1 hown' hgrow _; obtain ⟨g', cap', rfl⟩ := ownsRow_succ hown'; obtain ⟨hv1, hv2, hr2, hk2, hb2⟩ := HV.out.appended (by decide) HR.out hBs (Nat.le_refl _) hown' hgrow; have c2 := Lib.hid (((C1.out.alloc _).kept hgrow (C1.out.not_row (by decide) HR.out)).other (B' := w.heap.size) (by omega) (.slice (some ⟨g', 0, none⟩) (pre.length + 1) cap')); have hc1 := hv1.cell; have hf1 := hv1.frozen; clear hown' hgrow hv1)
    exact ⟨hk2.from _, ⟨hb2, fun o ho _ => by rw [show W.heap[w.heap.size + 1]? = _ from C1.out] at ho; cases ho; exact c2.out⟩, ⟨⟨_, hv2, by simpa using hr2, trivial⟩, c2.out⟩, hB.trans hb2⟩
  case done =>
    rintro D ys W hD hys ⟨⟨⟨v, hv, hrow, -⟩, -⟩, hB⟩ hK
    have hc := hv.cell
    have HR := Lib.hid hrow
    have HY := Lib.hid hys
    clear hrow hv hys
    gi_wp2
    refine ⟨by simp, .inl ⟨_, _, rfl, run_takeDeferred hK, ?_⟩⟩
    exact ⟨_, results_tmp rfl _ _ _, v, rfl, by rw [← HY.out]; exact ints_of_row (ownsRow_putObj HR.out _ hK rfl), hB.trans (belowK_b (w := w) (Nat.le_refl _) W D _ _ (by omega) hK rfl rfl)⟩
  case stop =>
    rintro D c pre W _ _ h _
    exact h.elim
end Go.Proofs.Ytilaiingcddegaa
