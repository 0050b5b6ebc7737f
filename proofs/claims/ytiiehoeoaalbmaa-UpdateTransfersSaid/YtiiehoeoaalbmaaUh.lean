/- Updates: data are cut into chunks. -/
import Derived.Test.YtiiehoeoaalbmaaUg
import Derived.Sort.QuietTacIn
import Derived.Sort.CutIn
namespace Go.Proofs.Ytiiehoeoaalbmaa
open Go.RowKit
attribute [local go_sem] Oper.semAt_some

theorem cvl_one (b off s n k : Nat) : (cvl b off s n k).oneCell' = true := rfl
theorem stopsC (D : List Int) (b off cap s : Nat) (w0 : World) (hD : IntsAt w0 (.slice (some ⟨b, off, none⟩) D.length cap) D) (hs1 : 1 ≤ s) (hs2 : s ≤ 32) (hn9 : D.length ≤ 5000) (hcap : D.length ≤ cap) (n : Nat) (hn : 1 ≤ n) (B1 B2 : Nat) (w : World) (hB : Below w0.heap.size w0 w) (hx1 : BoxN w0 B1 #[.slice (some ⟨b, off, none⟩) D.length cap] 22) (hx2 : BoxN w0 B2 #[.int .i64 s] 3) :
    SeqStopsK Fence.wide n Try.prog 66 #[.pointer (some ⟨B1, 0, none⟩), .pointer (some ⟨B2, 0, none⟩)] (fun x : Fin (chN D.length s) => #[cvl b off s D.length x.1]) (Below w0.heap.size) (fun ys => ys = List.finRange (chN D.length s)) (fun pre => pre <+: List.finRange (chN D.length s)) (chN D.length s) w := fun lp J Jx W hW hA _ hY h0 =>
  iterC D b off cap s w0 hD hs1 hs2 hn9 hcap n hn lp B1 B2 J Jx hY W hA (hB.trans (hW.mono hB.size)) hx1 hx2 h0
set_option maxRecDepth 100000 in
set_option maxHeartbeats 4000000 in
theorem appseq_in (D : List Int) (b off cap s : Nat) (B1 B2 : Nat) (w : World) (hD : IntsAt w (.slice (some ⟨b, off, none⟩) D.length cap) D) (hs1 : 1 ≤ s) (hs2 : s ≤ 32) (hn9 : D.length ≤ 5000) (hcap : D.length ≤ cap) (h1 : BoxN w B1 #[.slice (some ⟨b, off, none⟩) D.length cap] 22) (h2 : BoxN w B2 #[.int .i64 s] 3) :
    CallsIn Fence.wide 9 Try.prog 65 #[.slice none 0 0, .func (.func 66) #[] #[.pointer (some ⟨B1, 0, none⟩), .pointer (some ⟨B2, 0, none⟩)]] w fun e w' => ∃ u, e = .returned u ∧ w'.ownsRow w.heap.size 22 1 u (chN D.length s) ((List.finRange (chN D.length s)).map fun x => cvl b off s D.length x.1) ∧ Below w.heap.size w w' := by
  have H := Lib.hid hD
  have H1 := Lib.hid h1
  have H2 := Lib.hid h2
  have HN9 := Lib.hid (show chN D.length s ≤ 5000 from Nat.le_trans (chN_le _ _) hn9)
  clear hD h1 h2
  obtain ⟨i0, hi, hz0, hz1, hz2⟩ := info_parts infoSl
  refine callsIn_of_wp_marks Try.func65 rfl trivial ?_ rfl
  simp only [Try.ntmps65, List.size_toArray, List.length_cons, List.length_nil, Nat.reduceAdd, Nat.reduceSub, Array.replicate_succ, Array.replicate_zero, List.push_toArray, List.append_toArray, List.nil_append, List.cons_append]
  gi_wp2_with fail
  have b0 := Boxed.new w 25 (.slice none 0 0)
  have hB0 := al w (.cells #[.slice none 0 0] 25)
  have hsz : (w.alloc (.cells #[.slice none 0 0] 25)).heap.size = w.heap.size + 1 := by simp
  obtain ⟨W0, hW0⟩ : ∃ W0, w.alloc (.cells #[.slice none 0 0] 25) = W0 := ⟨_, rfl⟩
  rw [hW0] at b0 hB0 hsz ⊢
  clear hW0
  refine wpIn_rangeFunc_ownG rfl (by omega) (gf := 66) (lb := #[.pointer (some ⟨B1, 0, none⟩), .pointer (some ⟨B2, 0, none⟩)]) rfl trivial (enters_of Try.func66 (by kernel_rfl) rfl)
    (stopsC D b off cap s w H.out hs1 hs2 hn9 hcap 8 (by omega) B1 B2 W0 hB0 H1.out H2.out) (fun h k => h.trans k) (fun W l o o' hl h hc hw => belowK_b (by omega) W l o o' hl h hc hw) (Below.refl _ _) (fun _ => rfl)
    (fun pre W => (∃ v, Boxed W w.heap.size 25 v ∧ W.ownsRow w.heap.size 22 1 v pre.length (pre.map fun x => cvl b off s D.length x.1) ∧ True) ∧ Below w.heap.size w W)
    (fun _ _ _ => False)
    (OwnFrom.and (Own.from (holdsRow_own w.heap.size w.heap.size 25 22 1 (fun pre : List (Fin (chN D.length s)) => pre.length) (fun pre => pre.map fun x => cvl b off s D.length x.1) (fun _ _ => True)) _) (ownFrom_below (Nat.le_refl _) (by omega)))
    (fun _ _ _ _ _ hs _ _ => hs)
    ⟨⟨_, b0, World.ownsRow_nil _ _ _ _, trivial⟩, hB0⟩
    (fun x => { tmps := #[.slice none 0 0, .func (.func 66) #[] #[.pointer (some ⟨B1, 0, none⟩), .pointer (some ⟨B2, 0, none⟩)], .pointer (some ⟨w.heap.size, 0, none⟩), undef, .slice none 0 0, cvl b off s D.length x.1, .func (.func 66) #[] #[.pointer (some ⟨B1, 0, none⟩), .pointer (some ⟨B2, 0, none⟩)], cvl b off s D.length x.1, undef, undef, undef, undef, undef], defers := [] }) ?assign ?body ?done ?stop
  case assign =>
    intro lp x W K hK
    gi_wp2
    exact hK
  case body =>
    rintro lp pre x W ⟨⟨v, hv, hrow, -⟩, hB⟩ hlt
    have hc := hv.cell
    have hBs := hB.size
    have HV := Lib.hid hv
    have HR := Lib.hid hrow
    have hlt9 : pre.length < 5000 := Nat.lt_of_lt_of_le hlt HN9.out
    clear hv hrow hlt hs1 hs2 hn9 hcap
    obtain ⟨co, cn, hcv⟩ : ∃ co cn, cvl b off s D.length x.1 = .slice (some ⟨b, co, none⟩) cn cn := ⟨_, _, rfl⟩
    have HCV := Lib.hid hcv
    rw [hcv]
    clear hcv
    have HNW := Lib.hid (show ∀ j u, ([.slice (some ⟨b, co, none⟩) cn cn] : List Value)[j]? = some u → (W.alloc (.cells #[.slice (some ⟨b, co, none⟩) cn cn] 22)).cell? ((⟨W.heap.size, 0, none⟩ : Addr).add j) = some u from one_at (Cs.new W W.heap.size #[.slice (some ⟨b, co, none⟩) cn cn] 22 rfl))
    have HC2 := Lib.hid (show ∀ u ∈ ([.slice (some ⟨b, co, none⟩) cn cn] : List Value), u.oneCell' = true from by intro u hu; rw [List.mem_singleton] at hu; rw [hu]; rfl)
    gi_wp2_with (gi_at_builtin; refine wpListIn_append_own _ rfl _ _ 25 rfl w.heap.size 22 i0 (.slice none 0 0) 1 24 Try.underlying25 hi hz0 hz1 hz2 rfl (by decide) _ _ _ rfl (HR.out.alloc _) ⟨W.heap.size, 0, none⟩ 1 1 [.slice (some ⟨b, co, none⟩) cn cn] rfl rfl HNW.out HC2.out (by unfold maxLen; omega) (by omega) (by simp; omega) ?_; intro v' w1 hown' hgrow _; obtain ⟨g', cap', rfl⟩ := ownsRow_succ hown'; obtain ⟨hv1, hv2, hr2, hk2, hb2⟩ := HV.out.appended (by decide) HR.out hBs (Nat.le_refl _) hown' hgrow; have hc1 := hv1.cell; have hf1 := hv1.frozen; clear hown' hgrow hv1)
    exact ⟨hk2.from _, hb2, ⟨_, hv2, by rw [List.map_append, List.length_append, List.map_cons, List.map_nil, HCV.out]; exact hr2, trivial⟩, hB.trans hb2⟩
  case done =>
    rintro D' ys W hD' hys ⟨⟨v, hv, hrow, -⟩, hB⟩ hK
    have hc := hv.cell
    rw [hys, List.length_finRange] at hrow
    have HR2 := Lib.hid hrow
    clear hrow hv hys
    gi_wp2
    refine ⟨by simp, .inl ⟨_, _, rfl, run_takeDeferred hK, ?_⟩⟩
    exact ⟨_, results_tmp rfl _ _ _, v, rfl, ownsRow_putObj HR2.out _ hK rfl, hB.trans (belowK_b (w := w) (Nat.le_refl _) W D' _ _ (by omega) hK rfl rfl)⟩
  case stop =>
    rintro D' c' pre W _ _ h _
    exact h.elim
theorem collect_any (D : List Int) (b off cap s : Nat) (B1 B2 : Nat) (w : World) (hD : IntsAt w (.slice (some ⟨b, off, none⟩) D.length cap) D) (hs1 : 1 ≤ s) (hs2 : s ≤ 32) (hn9 : D.length ≤ 5000) (hcap : D.length ≤ cap) (h1 : BoxN w B1 #[.slice (some ⟨b, off, none⟩) D.length cap] 22) (h2 : BoxN w B2 #[.int .i64 s] 3) :
    Calls Try.prog 34 #[.func (.func 66) #[] #[.pointer (some ⟨B1, 0, none⟩), .pointer (some ⟨B2, 0, none⟩)]] w fun e w' => ∃ u, e = .returned u ∧ RowsAt w' u (chL s D) ∧ Below w.heap.size w w' := by
  have H := Lib.hid (callsIn_wide.1 (appseq_in D b off cap s B1 B2 w hD hs1 hs2 hn9 hcap h1 h2))
  have HD := Lib.hid hD
  clear hD h1 h2
  go_enter Try.func34, Try.ntmps34
  go_wp2_with fail
  refine H.out.mono ?_
  rintro e w1 ⟨u, rfl, hu, b1⟩
  have HU := Lib.hid hu
  have HB := Lib.hid b1
  clear hu b1
  go_wp2
  go_ret
  have hl : (chL s D).length = chN D.length s := chL_len s D
  refine ⟨u, rfl, OwR.rows (n1 := w1.heap.size) (n2 := w.heap.size) ?_, HB.out⟩
  obtain ⟨a, c, rfl⟩ := row_slice HU.out
  rcases HU.out.2 with ⟨e1, e2⟩ | ⟨g, cp, cur, e1, g1, g2, g3, g4, g5, g6⟩
  · have : chL s D = [] := List.length_eq_zero_iff.1 (by rw [hl]; exact e2)
    rw [this, e2]
    exact ⟨a, c, rfl, by simp, fun q => absurd rfl q⟩
  · obtain ⟨rfl, rfl⟩ : a = some ⟨g, 0, none⟩ ∧ c = cp := by simpa using e1
    refine ⟨_, c, by rw [hl], by rw [hl]; omega, fun _ => ⟨g, rfl, g1, (Array.getElem?_eq_some_iff.1 g2).1, fun i hi => ?_⟩⟩
    rw [hl] at hi
    have hc := HU.out.cells (g := g) rfl i (cvl b off s D.length i) (by rw [List.getElem?_map, List.getElem?_eq_getElem (by simpa using hi)]; simp)
    rw [Go.WideShapes.add_plain, Nat.zero_add] at hc
    have hlt := (chN_lt hs1).1 hi
    refine ⟨by simp [World.frozen?, g2], _, hc, by rw [chL_get hi]; exact (chk_at HD.out hlt).step HB.out, fun _ b' off' n' c' e => ?_, by unfold tyB; rw [g2]; rfl⟩
    cases e
    have hb : b < w.heap.size := ints_low HD.out (by intro q; rw [q] at hlt; simp at hlt) b off _ _ rfl
    exact ⟨.inl (Nat.lt_of_lt_of_le hb HB.out.size), by omega⟩
set_option maxRecDepth 100000 in
set_option maxHeartbeats 8000000 in
theorem chunk_any (va : Option Addr) (n cap : Nat) (s : Int) (hs : 1 ≤ s) (w : World) : Calls Try.prog 35 #[.slice va n cap, .int .i64 s] w fun e w' => e = .returned (.func (.func 66) #[] #[.pointer (some ⟨w.heap.size, 0, none⟩), .pointer (some ⟨w.heap.size + 1, 0, none⟩)]) ∧ w' = (w.alloc (.cells #[.slice va n cap] 22)).alloc (.cells #[.int .i64 s] 3) := by
  have t1 : ¬ s < 1 := by omega
  have t2 : decide (s < 1) = false := decide_eq_false t1
  go_enter Try.func35, Try.ntmps35
  go_wp2
  go_ret
  exact ⟨rfl, rfl⟩
end Go.Proofs.Ytiiehoeoaalbmaa
