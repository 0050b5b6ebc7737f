/- The walk of DriftBack. -/
import Derived.Test.YtilaiingcddegaaT
import Derived.Test.YtilaiingcddegaaJ
import Derived.Deep.RegionHeld3
namespace Go.Proofs.Ytilaiingcddegaa
open Go.RowKit
attribute [local go_sem] Oper.semAt_some

/-- A slice is no longer than its array. -/
def CapOk (v : Value) : Prop := ∃ a n c, v = .slice a n c ∧ n ≤ c ∧ (a = none → c = 0)
theorem row_cap {w : World} {base : Nat} {v : Value} {n : Nat} {xs : List Value} (h : w.ownsRow base 3 1 v n xs) : CapOk v := by
  rcases h.2 with ⟨rfl, hn⟩ | ⟨g, cap, cur, rfl, hbg, hg, hnc, hcm, hcur, htake⟩
  · exact ⟨_, _, _, rfl, Nat.le_refl _, fun _ => rfl⟩
  · exact ⟨_, _, _, rfl, hnc, fun h => by cases h⟩
def BackPostC (l : List Int) (w : World) (e : Ending) (w' : World) : Prop := ∃ v, e = .returned v ∧ IntsAt w' v l ∧ CapOk v ∧ Below w.heap.size w w'
theorem BackPostC.nil {w w' : World} (h : Below w.heap.size w w') : BackPostC [] w (.returned (.slice none 0 0)) w' := ⟨_, rfl, ints_nil _, ⟨_, _, _, rfl, Nat.le_refl _, fun _ => rfl⟩, h⟩
set_option maxRecDepth 100000 in
set_option maxHeartbeats 2000000 in
theorem back_noC (v : Value) (l : List Int) (w : World) (h : IntsAt w v l) (hr : rdB l = false) : Calls Try.prog 19 #[v] w (BackPostC [] w) := by
  have H := Lib.hid h
  obtain ⟨a, cap, rfl, hm, -⟩ := h
  unfold maxLen at hm
  by_cases h4 : l.length ≤ 400
  · have q : decide (400 < (l.length : Int)) = false := by simp; omega
    have hi := Lib.hid (show inR l = false by unfold rdB at hr; simpa [h4] using hr)
    clear hr h4
    go_enter Try.func19, Try.ntmps19
    go_wp2_with (go_at_call 29; go_must (refine (contains_any _ l _ H.out).mono ?_); rintro e w' ⟨rfl, rfl⟩; rw [hi.out])
    go_ret
    exact BackPostC.nil (by repeat (first | with_reducible exact Below.refl _ _ | with_reducible exact Below.refl _ _ | ((with_reducible refine Below.setCell ?_ ?_ _); rotate_left; focus (first | (simp; done) | (simp; omega) | omega)) | ((with_reducible refine Below.alloc ?_ ?_ _); rotate_left; focus (first | (simp; done) | (simp; omega) | omega)) | with_reducible refine Below.trans ?_ (below_drewN' _ _ _) | with_reducible refine Below.trans ?_ (below_drew _ _)))
  · have q : decide (400 < (l.length : Int)) = true := by simp; omega
    clear hr
    go_enter Try.func19, Try.ntmps19
    go_wp2
    go_ret
    exact BackPostC.nil (by repeat (first | with_reducible exact Below.refl _ _ | with_reducible exact Below.refl _ _ | ((with_reducible refine Below.setCell ?_ ?_ _); rotate_left; focus (first | (simp; done) | (simp; omega) | omega)) | ((with_reducible refine Below.alloc ?_ ?_ _); rotate_left; focus (first | (simp; done) | (simp; omega) | omega)) | with_reducible refine Below.trans ?_ (below_drewN' _ _ _) | with_reducible refine Below.trans ?_ (below_drew _ _)))

set_option maxRecDepth 100000 in
set_option maxHeartbeats 4000000 in
theorem back_inC (v : Value) (l : List Int) (w : World) (h : IntsAt w v l) (hr : rdB l = true) : CallsIn Fence.wide 9 Try.prog 19 #[v] w (BackPostC (backL l) w) := by
  have H := Lib.hid h
  obtain ⟨a, cap, rfl, hm, -⟩ := h
  unfold maxLen at hm
  obtain ⟨hi, h4⟩ : inR l = true ∧ l.length ≤ 400 := by unfold rdB at hr; simpa using hr
  have HI := Lib.hid hi
  have q : decide (400 < (l.length : Int)) = false := by simp; omega
  clear hr hi
  obtain ⟨i0, hi, hz0, hz1, hz2⟩ := info_parts info3
  refine callsIn_of_wp_marks Try.func19 rfl trivial ?_ rfl
  simp only [Try.ntmps19, List.size_toArray, List.length_cons, List.length_nil, Nat.reduceAdd, Nat.reduceSub, Array.replicate_succ, Array.replicate_zero, List.push_toArray, List.append_toArray, List.nil_append, List.cons_append]
  gi_wp2_with (first
    | (refine ⟨trivial, ?_⟩; gi_at_call 29; refine (callsIn_wide.2 (contains_any _ l _ H.out)).mono ?_; rintro e w' ⟨rfl, rfl⟩; rw [HI.out])
    | (refine ⟨trivial, ?_⟩; gi_at_call 30; refine (callsIn_wide.2 (corrected_any _ _ _ _)).mono ?_; rintro e w' ⟨rfl, rfl⟩))
  have b0 := (Boxed.new w 24 (.slice none 0 0)).alloc (.cells #[.slice a l.length cap] 24)
  have b1 := Boxed.new (w.alloc (.cells #[.slice none 0 0] 24)) 24 (.slice a l.length cap)
  rw [World.size_alloc] at b1
  have hB0 : Below w.heap.size w ((w.alloc (.cells #[.slice none 0 0] 24)).alloc (.cells #[.slice a l.length cap] 24)) := al2
  have hsz : ((w.alloc (.cells #[.slice none 0 0] 24)).alloc (.cells #[.slice a l.length cap] 24)).heap.size = w.heap.size + 2 := by simp
  obtain ⟨W0, hW0⟩ : ∃ W0, (w.alloc (.cells #[.slice none 0 0] 24)).alloc (.cells #[.slice a l.length cap] 24) = W0 := ⟨_, rfl⟩
  rw [hW0] at b0 b1 hB0 hsz ⊢
  clear hW0
  refine wpIn_rangeFunc_ownG rfl (by omega) (gf := 32) (lb := #[.pointer (some ⟨w.heap.size + 1, 0, none⟩)]) rfl trivial (enters_of Try.func32 (by kernel_rfl) rfl)
    (iter_stops l a cap w H.out HI.out h4 8 (by omega) (w.heap.size + 1) W0 hB0 b1) Keep.trans (fun W l o o' => Keep.putObj (by omega) W l o o') (Below.refl _ _) (fun _ => rfl)
    (fun pre W => ((∃ v, Boxed W w.heap.size 24 v ∧ W.ownsRow w.heap.size 3 1 v pre.length (pre.map (Value.int .i64)) ∧ True) ∧ Boxed W (w.heap.size + 1) 24 (.slice a l.length cap)) ∧ Below w.heap.size w W)
    (fun _ _ _ => False)
    (OwnFrom.and (OwnFrom.and (Own.from (holdsRow_own w.heap.size w.heap.size 24 3 1 (fun pre : List Int => pre.length) (fun pre => pre.map (Value.int .i64)) (fun _ _ => True)) _) (Own.from (boxed_own _ _ _) _)) (ownFrom_below (Nat.le_refl _) (by omega)))
    (fun _ _ _ _ _ hs _ _ => hs)
    ⟨⟨⟨_, b0, World.ownsRow_nil _ _ _ _, trivial⟩, b1⟩, hB0⟩
    (fun x => { tmps := #[.slice a l.length cap, undef, .slice none 0 0, .func (.func 27) #[] #[], .pointer (some ⟨w.heap.size, 0, none⟩), .int .i64 x, .slice a l.length cap, .int .i64 l.length, .bool false, .bool false, .slice a l.length cap, .func (.func 27) #[] #[], .bool false, .bool false, .slice a l.length cap, .func (.func 32) #[] #[.pointer (some ⟨w.heap.size + 1, 0, none⟩)], .int .i64 x, undef, undef, undef, undef, undef], defers := [] }) ?assign ?body ?done ?stop
  case assign =>
    intro lp x W K hK
    gi_wp2
    exact hK
  case body =>
    rintro lp pre x W ⟨⟨⟨v, hv, hrow, -⟩, c1⟩, hB⟩ hlt
    have hc := hv.cell
    have hBs := hB.size
    have HV := Lib.hid hv
    have HR := Lib.hid hrow
    have C1 := Lib.hid c1
    clear hv hrow c1
    gi_wp2_with (gi_at_builtin; refine wpListIn_append_own _ rfl _ _ 24 rfl w.heap.size 3 i0 (.int .i64 0) 1 8 Try.underlying24 hi hz0 hz1 hz2 rfl (by decide) _ _ _ rfl (HR.out.alloc _) ⟨W.heap.size, 0, none⟩ 1 1 [.int .i64 x] rfl rfl (cell_one_new _ _ _) (by simp [Value.oneCell']) (by unfold maxLen; omega) (by omega) (by simp; omega) ?_; intro v' w1 hown' hgrow _; obtain ⟨g', cap', rfl⟩ := ownsRow_succ hown'; obtain ⟨hv1, hv2, hr2, hk2, hb2⟩ := HV.out.appended (by decide) HR.out hBs (Nat.le_refl _) hown' hgrow; have c2 := Lib.hid (((C1.out.alloc _).kept hgrow (C1.out.not_row (by decide) HR.out)).other (B' := w.heap.size) (by omega) (.slice (some ⟨g', 0, none⟩) (pre.length + 1) cap')); have hc1 := hv1.cell; have hf1 := hv1.frozen; clear hown' hgrow hv1)
    exact ⟨hk2.from _, ⟨hb2, fun o ho _ => by rw [show W.heap[w.heap.size + 1]? = _ from C1.out] at ho; cases ho; exact c2.out⟩, ⟨⟨_, hv2, by simpa using hr2, trivial⟩, c2.out⟩, hB.trans hb2⟩
  case done =>
    rintro D ys W hD hys ⟨⟨⟨v, hv, hrow, -⟩, -⟩, hB⟩ hK
    have hc := hv.cell
    have HR := Lib.hid hrow
    have HY := Lib.hid hys
    clear hrow hv hys
    gi_wp2
    refine ⟨by simp, .inl ⟨_, _, rfl, run_takeDeferred hK, ?_⟩⟩
    exact ⟨_, results_tmp rfl _ _ _, v, rfl, by rw [← HY.out]; exact ints_of_row (ownsRow_putObj HR.out _ hK rfl), row_cap HR.out, hB.trans (belowK_b (w := w) (Nat.le_refl _) W D _ _ (by omega) hK rfl rfl)⟩
  case stop =>
    rintro D c pre W _ _ h _
    exact h.elim

theorem back_C (v : Value) (l : List Int) (w : World) (h : IntsAt w v l) (hr : rdB l = true) : Calls Try.prog 19 #[v] w (BackPostC (backL l) w) := callsIn_wide.1 (back_inC v l w h hr)

/-- Two slices lie in different blocks. -/
def Dis (v u : Value) : Prop := ∀ g, v.ownBlock = some g → u.ownBlock ≠ some g
theorem Dis.symm {v u : Value} (h : Dis v u) : Dis u v := fun g h1 h2 => h g h2 h1
theorem row_lt {w : World} {base : Nat} {v : Value} {n : Nat} {xs : List Value} {g : Nat} (h : w.ownsRow base 3 1 v n xs) (hg : v.ownBlock = some g) : g < w.heap.size := by
  rcases h.2 with ⟨rfl, hn⟩ | ⟨g2, cap, cur, rfl, hbg, hgg, _⟩
  · simp [Value.ownBlock] at hg
  · obtain rfl : g2 = g := by simpa [Value.ownBlock] using hg
    exact (Array.getElem?_eq_some_iff.1 hgg).1
theorem row_kept {w w1 : World} {base : Nat} {v u : Value} {n : Nat} {xs : List Value} {o : Obj} (h : w.ownsRow base 3 1 u n xs) (hd : Dis v u) (hg : (w.alloc o).grownBy w1 v.ownBlock) : w1.ownsRow base 3 1 u n xs := by
  refine (h.alloc o).kept hg ?_
  cases hu : u.ownBlock with
  | none => exact .inl rfl
  | some g => exact .inr (fun e => hd g e.symm hu)
theorem dis_new {w : World} {base : Nat} {v u : Value} {n : Nat} {xs : List Value} {g c k : Nat} {o : Obj} (h : w.ownsRow base 3 1 u n xs) (hd : Dis v u) (hw : v.ownBlock = some g ∨ g = (w.alloc o).heap.size) : Dis (.slice (some ⟨g, 0, none⟩) k c) u := by
  intro g2 e hu
  obtain rfl : g = g2 := by simpa [Value.ownBlock] using e
  rcases hw with hw | hw
  · exact hd _ hw hu
  · have := row_lt h hu; rw [hw] at this; simp at this; omega
theorem below_base {w wr w1 : World} {v : Value} {o : Obj} {n : Nat} {xs : List Value} {B : Nat} (hBw : B = w.heap.size) (hB : Below B w wr) (hrow : wr.ownsRow B 3 1 v n xs) (hg : (wr.alloc o).grownBy w1 v.ownBlock) : Below B w w1 := by
  subst hBw; exact below_own hB hrow hg
theorem take_map {f : Int → Int} {l : List Int} {k : Nat} (h : k < l.length) : ((l.map f).take (k + 1)).map (Value.int .i64) = ((l.map f).take k).map (Value.int .i64) ++ [.int .i64 (f (l.getD k 0))] := by
  rw [List.take_succ_eq_append_getElem (by simpa using h)]; simp [h]
theorem back_val {l : List Int} {k : Nat} (h : k < l.length) : (backL l).getD k 0 = bk l k := by rw [List.getD_eq_getElem?_getD, backL_getD _ _ h]; rfl
set_option maxRecDepth 100000 in
set_option maxHeartbeats 32000000 in
theorem backLaw_walk (v : Value) (l : List Int) (by_ raw : Int) (w : World) (hl : IntsAt w v l) (hcap : CapOk v) (hb1 : -2147483648 ≤ by_) (hb2 : by_ ≤ 2147483647) (hr1 : 0 ≤ raw) (hr2 : raw ≤ 65535) :
    Calls Try.prog 8 #[v, .int .i32 by_, .int .u16 raw] w fun e w' => e = .returned (.bool true) ∧ Below w.heap.size w w' := by
  have HL := Lib.hid hl
  obtain ⟨la, lc, rfl, hm, -⟩ := hl
  obtain ⟨la2, ln2, lc2, hv2, hlc, hla⟩ := hcap
  obtain ⟨rfl, rfl, rfl⟩ : la = la2 ∧ l.length = ln2 ∧ lc = lc2 := by simpa using hv2
  unfold maxLen at hm
  clear hv2
  cases hrd : rdB l
  · have HRD := Lib.hid hrd
    clear hrd
    by_cases h4 : l.length ≤ 400
    · have q4 : decide (400 < (l.length : Int)) = false := by simp; omega
      go_enter Try.func8, Try.ntmps8
      go_wp2_with fail
      refine (head_any _).mono ?_
      rintro e u1 ⟨rfl, b1⟩
      have HL1 := Lib.hid (HL.out.step b1)
      go_wp2_with fail
      refine (readings_any _ l _ HL1.out).mono ?_
      rintro e u2 ⟨rfl, rfl⟩
      rw [HRD.out]
      go_wp2
      go_ret
      exact ⟨rfl, b1⟩
    · have q4 : decide (400 < (l.length : Int)) = true := by simp; omega
      go_enter Try.func8, Try.ntmps8
      go_wp2_with fail
      refine (head_any _).mono ?_
      rintro e u1 ⟨rfl, b1⟩
      go_wp2
      go_ret
      exact ⟨rfl, b1⟩
  · have HRD := Lib.hid hrd
    obtain ⟨hi, h4⟩ : inR l = true ∧ l.length ≤ 400 := by unfold rdB at hrd; simpa using hrd
    have HI := Lib.hid hi
    have q4 : decide (400 < (l.length : Int)) = false := by simp; omega
    clear hi hrd
    go_enter Try.func8, Try.ntmps8
    go_wp2_with fail
    refine (head_any _).mono ?_
    rintro e u1 ⟨rfl, b1⟩
    have HL1 := Lib.hid (HL.out.step b1)
    go_wp2_with fail
    refine (readings_any _ l _ HL1.out).mono ?_
    rintro e u2 ⟨rfl, rfl⟩
    rw [HRD.out]
    go_wp2_with fail
    refine (back_C _ l _ HL1.out HRD.out).mono ?_
    rintro e u2 ⟨vo, rfl, ho, hco, b2⟩
    have HL2 := Lib.hid (HL1.out.step b2)
    have HO2 := Lib.hid ho
    have HB2 := Lib.hid (keep2 b2 b1)
    obtain ⟨oa, on, oc, rfl, hoc, hoa⟩ := hco
    obtain ⟨oa2, oc2, hv2, hom, -⟩ := ho
    obtain ⟨rfl, rfl, rfl⟩ : oa = oa2 ∧ on = (backL l).length ∧ oc = oc2 := by simpa using hv2
    clear hv2 b1 b2 HL HL1
    rw [backL_len] at hoc hom
    have HE := Lib.hid (backL_len l)
    rw [backL_len]
    go_wp2_with fail
    go_loopw [9, 10] (fun f i wr => ∃ k n : Nat, k ≤ l.length ∧ i = .int .i64 k ∧ f = .bool (fwd l k) ∧ wr = u2.drewN n) (fun _ i _ => l.length - (intOf i).toNat)
    case atStart => exact ⟨0, 0, by omega, rfl, rfl, rfl⟩
    case round =>
      obtain ⟨k, n, hk, rfl, rfl, rfl⟩ := hrel
      by_cases hlt : k < l.length
      · obtain ⟨a2, c2, hv2, -, hcs⟩ := HL2.out
        obtain ⟨rfl, rfl⟩ : la = a2 ∧ lc = c2 := by simpa using hv2
        obtain ⟨b, off, rfl, hcs2⟩ := hcs (by intro h; rw [h] at hlt; simp at hlt)
        have hx := hcs2 k _ (getD_of hlt)
        have hxf := fun m (hm : m + 1 = k) => hcs2 m _ (getD_of (show m < l.length by omega))
        clear hcs hcs2 hv2
        obtain ⟨a2, c2, hv2, -, hcs⟩ := HO2.out
        obtain ⟨rfl, rfl⟩ : oa = a2 ∧ oc = c2 := by simpa using hv2
        obtain ⟨b', off', rfl, hcs2⟩ := hcs (by intro h; have := HE.out; rw [h] at this; simp at this; omega)
        have hy := hcs2 k _ (getD_of (by rw [HE.out]; exact hlt))
        have hyf := fun m (hm : m + 1 = k) => hcs2 m _ (getD_of (show m < (backL l).length by rw [HE.out]; omega))
        rw [back_val hlt] at hy
        clear hcs hcs2 hv2
        cases k with
        | zero =>
          clear hxf hyf
          have hl0 : 0 < l.length := hlt
          rw [show bk l 0 = l.getD 0 0 from rfl, Nat.add_zero] at hy
          rw [Nat.add_zero] at hx
          rw [show ((0 : Nat) : Int) = 0 from rfl, show fwd l 0 = true from rfl]
          generalize l.getD 0 0 = x at *
          go_wp2
          go_quiet (fail)
          go_wp2
          go_quiet (fail)
          go_wp2
          go_roundw
          case rel => exact ⟨1, _, hlt, by go_num, rfl, rfl⟩
          case measure => simp [intOf]; omega
        | succ m =>
          have hx1 := hxf m rfl
          have hy1 := hyf m rfl
          clear hxf hyf
          rw [back_val (show m < l.length by omega)] at hy1
          have hm5 : (m : Int) + 1 < l.length := by omega
          have hm6 : (m : Int) < l.length := by omega
          have hm7 : (m : Int) < (m : Int) + 1 := by omega
          have hm8 : 0 ≤ (m : Int) + 1 := by omega
          have hm9 : 0 < (m : Int) + 1 := by omega
          have hm10 : decide (0 < (m : Int) + 1) = true := decide_eq_true hm9
          have d1 : decide (bk l (m + 1) < l.getD (m + 1) 0) = false := decide_eq_false (by have := bk_ge l (m + 1); omega)
          have d2 : decide (bk l (m + 1) < bk l m) = false := decide_eq_false (by have := bk_mono l m; omega)
          have HF2 := Lib.hid (show fwd l (m + 1 + 1) = (fwd l (m + 1) && !decide (l.getD (m + 1) 0 < l.getD m 0)) from rfl)
          have HEQ := Lib.hid (fun h => bk_fwd l (m + 1) h)
          rcases (show (decide (l.getD (m + 1) 0 < l.getD m 0) = true ∧ fwd l (m + 1 + 1) = false) ∨ (decide (l.getD (m + 1) 0 < l.getD m 0) = false ∧ fwd l (m + 1) = true ∧ fwd l (m + 1 + 1) = true) ∨ (decide (l.getD (m + 1) 0 < l.getD m 0) = false ∧ fwd l (m + 1) = false ∧ fwd l (m + 1 + 1) = false) by
            rw [HF2.out]; cases decide (l.getD (m + 1) 0 < l.getD m 0) <;> cases fwd l (m + 1) <;> simp) with ⟨d3, f2⟩ | ⟨d3, f1, f2⟩ | ⟨d3, f1, f2⟩
          · have F2 := Lib.hid f2
            clear f2
            generalize fwd l (m + 1) = fo at *
            generalize l.getD (m + 1) 0 = x at *
            generalize l.getD m 0 = x1 at *
            generalize bk l (m + 1) = y at *
            generalize bk l m = y1 at *
            have q1 : IntKind.i64.wrap (m : Int) = m := IntWalk.i64_in _ (by omega)
            go_wp2
            go_quiet (fail)
            go_wp2
            go_quiet (fail)
            clear q1
            go_wp2
            go_roundw
            case rel => exact ⟨m + 1 + 1, _, hlt, by go_num, by rw [F2.out], rfl⟩
            case measure => simp [intOf]; omega
          · have F2 := Lib.hid f2
            have d4 : (bk l (m + 1) != l.getD (m + 1) 0) = false := by rw [HEQ.out f2]; simp
            rw [f1]
            clear f1 f2
            generalize l.getD (m + 1) 0 = x at *
            generalize l.getD m 0 = x1 at *
            generalize bk l (m + 1) = y at *
            generalize bk l m = y1 at *
            have q1 : IntKind.i64.wrap (m : Int) = m := IntWalk.i64_in _ (by omega)
            go_wp2
            go_quiet (fail)
            go_wp2
            go_quiet (fail)
            clear q1
            go_wp2
            go_roundw
            case rel => exact ⟨m + 1 + 1, _, hlt, by go_num, by rw [F2.out], rfl⟩
            case measure => simp [intOf]; omega
          · have F2 := Lib.hid f2
            rw [f1]
            clear f1 f2
            generalize l.getD (m + 1) 0 = x at *
            generalize l.getD m 0 = x1 at *
            generalize bk l (m + 1) = y at *
            generalize bk l m = y1 at *
            have q1 : IntKind.i64.wrap (m : Int) = m := IntWalk.i64_in _ (by omega)
            go_wp2
            go_quiet (fail)
            go_wp2
            go_quiet (fail)
            clear q1
            go_wp2
            go_roundw
            case rel => exact ⟨m + 1 + 1, _, hlt, by go_num, by rw [F2.out], rfl⟩
            case measure => simp [intOf]; omega
      · obtain ⟨N, hN, hN2⟩ : ∃ N : Nat, raw % ((l.length : Int) + 1) = N ∧ N ≤ l.length := ⟨(raw % ((l.length : Int) + 1)).toNat, by have := Int.emod_nonneg raw (show (l.length : Int) + 1 ≠ 0 by omega); omega, by have := Int.emod_lt_of_pos raw (show (0 : Int) < (l.length : Int) + 1 by omega); omega⟩
        have HN := Lib.hid hN
        have hN3 : (N : Int) ≤ lc := by omega
        have hN4 : (N : Int) ≤ oc := by omega
        clear hN
        go_wp2
        rw [HN.out]
        have HL3 := Lib.hid (show IntsAt (u2.drewN n) _ _ from HL2.out.step (below_drewN' _ _ _))
        have HO3 := Lib.hid (show IntsAt (u2.drewN n) _ _ from HO2.out.step (below_drewN' _ _ _))
        have HB3 := Lib.hid (HB2.out.trans (below_drewN' _ _ n))
        clear HL2 HO2 HB2
        generalize u2.drewN n = w3 at *
        have hS : (fun w' => Below w3.heap.size w3 w') w3.drew := below_drew _ _
        have HLT := Lib.hid (show ∀ w', Below w3.heap.size w3 w' → IntsAt w' (.slice la N lc) (l.take N) from fun w' h => (HL3.out.take N hN2).step h)
        have HOT := Lib.hid (show ∀ w', Below w3.heap.size w3 w' → IntsAt w' (.slice oa N oc) ((backL l).take N) from fun w' h => (HO3.out.take N (by rw [HE.out]; exact hN2)).step h)
        go_region_held3 (fun w' => Below w3.heap.size w3 w') (first | exact keep2 hbq (by assumption) | assumption | go_keep) (first | (go_at_call 19; refine (back_any _ (l.take N) _ (HLT.out _ (by assumption))).mono ?_; rintro e w' ⟨v19, rfl, hv19, hbq⟩; have i19 := Lib.hid hv19; clear hv19) | (go_at_call 18; refine (ints_any _ _ _ _ _ i19.out (HOT.out _ (by assumption))).mono ?_; rintro e w' ⟨rfl, hbq⟩; rw [bkv_take HRD.out N hN2, show eqI ((backL l).take N) ((backL l).take N) = true by unfold eqI; simp]))
        have hS9 : Below w3.heap.size w3 w' := by assumption
        have HL4 := Lib.hid (HL3.out.step hS9)
        have HO4 := Lib.hid (HO3.out.step hS9)
        have HB4 := Lib.hid (keep2 hS9 HB3.out)
        clear hS9 HLT HOT HL3 HO3 HB3 i19 hbq
        go_wp2_with fail
        generalize w' = w4 at *
        obtain ⟨i0, hi, hz0, hz1, hz2⟩ := info_parts info3
        have ht0 : w.heap.size ≤ w4.heap.size := HB4.out.size
        go_loopw [12, 13, 14] (fun v1 v2 i wr => ∃ k : Nat, k ≤ l.length ∧ i = .int .i64 k ∧ Hid (wr.ownsRow w4.heap.size 3 1 v1 k (((l.map (· + by_)).take k).map (Value.int .i64))) ∧ Hid (wr.ownsRow w4.heap.size 3 1 v2 k ((((backL l).map (· + by_)).take k).map (Value.int .i64))) ∧ Hid (Dis v1 v2) ∧ Hid (Below w4.heap.size w4 wr)) (fun _ _ i _ => l.length - (intOf i).toNat)
        case atStart => exact ⟨0, by omega, rfl, World.ownsRow_nil _ _ _ _, World.ownsRow_nil _ _ _ _, fun g h => by simp [Value.ownBlock] at h, Below.refl _ _⟩
        case round =>
          obtain ⟨k, hk, rfl, HR1, HR2, HD, HB⟩ := hrel
          by_cases hlt : k < l.length
          · have hsz := HB.out.size
            obtain ⟨a2, c2, hv2, -, hcs⟩ := HL4.out.step HB.out
            obtain ⟨rfl, rfl⟩ : la = a2 ∧ lc = c2 := by simpa using hv2
            obtain ⟨b, off, rfl, hcs2⟩ := hcs (by intro h; rw [h] at hlt; simp at hlt)
            have hx := hcs2 k _ (getD_of hlt)
            clear hcs hcs2 hv2
            obtain ⟨a2, c2, hv2, -, hcs⟩ := HO4.out
            obtain ⟨rfl, rfl⟩ : oa = a2 ∧ oc = c2 := by simpa using hv2
            obtain ⟨b', off', rfl, hcs2⟩ := hcs (by intro h; have := HE.out; rw [h] at this; simp at this; omega)
            have hy := hcs2 k _ (getD_of (by rw [HE.out]; exact hlt))
            rw [back_val hlt] at hy
            have HY := Lib.hid hy
            clear hy
            clear hcs hcs2 hv2
            have g1 := inR_get HI.out k
            have g2 := bk_bd HI.out k
            have T1 := Lib.hid (take_map (f := (· + by_)) hlt)
            have T2 := Lib.hid (take_map (f := (· + by_)) (l := backL l) (k := k) (by rw [HE.out]; exact hlt))
            rw [back_val hlt] at T2
            have c1 : k + 1 ≤ maxLen := by unfold maxLen; omega
            have c2 : (k + 1) * 8 ≤ 140737488355328 := by omega
            generalize l.getD k 0 = x at *
            generalize bk l k = y at *
            go_wp2_with (first | (at_builtin; refine wpList_append_lies _ rfl (.tmp 112) (.tmp 120) 24 rfl w4.heap.size 3 i0 (.int .i64 0) 1 8 Try.underlying24 hi hz0 hz1 hz2 rfl (by decide) _ _ _ rfl (HR1.out.alloc _) ⟨wr.heap.size, 0, none⟩ 1 1 [.int .i64 (x + by_)] rfl rfl (cell_one_new _ _ _) (by simp [Value.oneCell']) (by decide) c1 c2 (by simp; omega) _ rfl ?_; intro gA gAc w5 hown hgrow hwh _; have HR1' := Lib.hid (show w5.ownsRow w4.heap.size 3 1 _ (k + 1) (((l.map (· + by_)).take (k + 1)).map (Value.int .i64)) by rw [T1.out]; exact hown); have HR2' := Lib.hid (row_kept HR2.out HD.out hgrow); have HD' := Lib.hid (dis_new (c := gAc) (k := k + 1) HR2.out HD.out hwh); have HB' := Lib.hid (below_base rfl HB.out HR1.out hgrow); have hy5 := keep1 HB'.out HY.out; have hs5 := HB'.out.size; clear hown hgrow hwh) | (at_builtin; refine wpList_append_lies _ rfl (.tmp 122) (.tmp 130) 24 rfl w4.heap.size 3 i0 (.int .i64 0) 1 8 Try.underlying24 hi hz0 hz1 hz2 rfl (by decide) _ _ _ rfl (HR2'.out.alloc _) ⟨w5.heap.size, 0, none⟩ 1 1 [.int .i64 (y + by_)] rfl rfl (cell_one_new _ _ _) (by simp [Value.oneCell']) (by decide) c1 c2 (by simp; omega) _ rfl ?_; intro gB gBc w6 hown hgrow hwh _; have HR2'' := Lib.hid (show w6.ownsRow w4.heap.size 3 1 _ (k + 1) ((((backL l).map (· + by_)).take (k + 1)).map (Value.int .i64)) by rw [T2.out]; exact hown); have HR1'' := Lib.hid (row_kept HR1'.out HD'.out.symm hgrow); have HD'' := Lib.hid (dis_new (c := gBc) (k := k + 1) HR1'.out HD'.out.symm hwh); have HB'' := Lib.hid (below_base rfl HB'.out HR2'.out hgrow); clear hown hgrow hwh))
            go_roundw
            case rel => exact ⟨k + 1, hlt, by go_num, HR1'', HR2'', HD''.out.symm, HB''⟩
            case measure => simp [intOf]; omega
          · have hlen : k = l.length := by omega
            subst hlen
            have HA := HR1.out
            have HC := HR2.out
            rw [List.take_of_length_le (by simp)] at HA
            rw [List.take_of_length_le (by rw [List.length_map, HE.out]; omega)] at HC
            have HM1 := Lib.hid (ints_of_row (xs := l.map (· + by_)) (by rw [List.length_map]; exact HA))
            have HM2 := Lib.hid (ints_of_row (xs := (backL l).map (· + by_)) (by rw [List.length_map, HE.out]; exact HC))
            have HB9 := Lib.hid (keep2 HB.out HB4.out)
            clear HA HC
            go_wp2_with fail
            refine (readings_any _ _ _ HM1.out).mono ?_
            rintro e w8 ⟨rfl, rfl⟩
            cases hrm : rdB (l.map (· + by_))
            · go_wp2
              go_ret
              exact ⟨rfl, HB9.out⟩
            · have HRM := Lib.hid hrm
              clear hrm
              go_wp2_with fail
              refine (back_any _ _ _ HM1.out).mono ?_
              rintro e w9 ⟨v9, rfl, hv9, b9⟩
              rw [show bkv (l.map (· + by_)) = (backL l).map (· + by_) by unfold bkv; rw [HRM.out]; exact backL_map l by_] at hv9
              have HV9 := Lib.hid hv9
              have HM3 := Lib.hid (HM2.out.step b9)
              have HB10 := Lib.hid (keep2 b9 HB9.out)
              clear hv9 b9
              go_wp2_with fail
              refine (ints_any _ _ _ _ _ HV9.out HM3.out).mono ?_
              rintro e w10 ⟨rfl, b10⟩
              rw [show eqI ((backL l).map (· + by_)) ((backL l).map (· + by_)) = true by unfold eqI; simp]
              have HB11 := Lib.hid (keep2 b10 HB10.out)
              clear b10
              go_wp2
              go_ret
              exact ⟨rfl, HB11.out⟩
end Go.Proofs.Ytilaiingcddegaa
