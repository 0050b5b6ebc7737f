/- The iterator of the overlay: what it yields. -/
import Derived.RangeFuncNested
import Derived.RangeFuncBound
import Derived.RangeFuncCalls
import Derived.RangeFuncLeaves
import Derived.Shelf.Abstract
import Derived.Shelf.RegionOpen
import Derived.WalkKit
import Derived.OwnWalkIn
import Derived.TacticsInMore
import Derived.LoopNIn
import Derived.LoopIn
import Derived.Maps.AppendAt
import Derived.WalkMore
import Derived.Test.YtloilkfloidnjaaH
namespace Go.Proofs.Ytloilkfloidnjaa
open Go.RowKit Go.WideMaps Go.Shelf
attribute [local go_sem] Oper.semAt_some

theorem MW.walks {w w' : World} {b n : Nat} {f : WF} (h : MW w b n f) (hk : KeepsWalks w w') : MW w' b n f := by
  obtain ⟨D, ⟨es, clock, hb, F, hs, hD⟩, h2, h3⟩ := h
  exact ⟨D, ⟨es, clock, hk.same b _ hb rfl, F, hs, hD⟩, h2, h3⟩
theorem MW.walk {w : World} {b n : Nat} {f : WF} (h : MW w b n f) : ∃ o : Obj, w.heap[b]? = some o ∧ o.isWalk = true := by
  obtain ⟨D, ⟨es, clock, hb, F, hs, hD⟩, h2, h3⟩ := h
  exact ⟨_, hb, rfl⟩
theorem MW.lt {w : World} {b n : Nat} {f : WF} (h : MW w b n f) : b < w.heap.size := by
  obtain ⟨o, h, -⟩ := h.walk
  exact (Array.getElem?_eq_some_iff.1 h).1
/-- What the settings that are left yield. -/
def yl (L : List Scn) : WF → List Sett → List Sett
  | _, [] => []
  | F, s :: r => match F s.dev s.attr with
    | none => yl L F r
    | some p => (stN L p.1).getD p.2 zS :: yl L (del F s.dev s.attr) r
theorem yl_none {L : List Scn} {F : WF} {s : Sett} {r : List Sett} (h : F s.dev s.attr = none) : yl L F (s :: r) = yl L F r := by rw [yl, h]
theorem yl_some {L : List Scn} {F : WF} {s : Sett} {r : List Sett} {p : Nat × Nat} (h : F s.dev s.attr = some p) : yl L F (s :: r) = (stN L p.1).getD p.2 zS :: yl L (del F s.dev s.attr) r := by rw [yl, h]
/-- The settings of the scenes from the m-th on. -/
def remI (L : List Scn) (I : List Nat) (m : Nat) : List Sett := (I.drop m).flatMap (stN L)
theorem drop_get {l : List Sett} {k : Nat} (h : k < l.length) : l.drop k = l.getD k zS :: l.drop (k + 1) := by
  rw [List.drop_eq_getElem_cons h]
  simp [List.getD_eq_getElem?_getD, h]
theorem remI_step {L : List Scn} {I : List Nat} {m : Nat} (h : m < I.length) : remI L I m = stN L (I.getD m 0) ++ remI L I (m + 1) := by
  unfold remI
  rw [List.drop_eq_getElem_cons h, List.flatMap_cons]
  simp [List.getD_eq_getElem?_getD, h]
theorem remI_end {L : List Scn} {I : List Nat} {m : Nat} (h : I.length ≤ m) : remI L I m = [] := by
  unfold remI
  rw [List.drop_eq_nil_of_le h]; rfl
theorem WOk.del {L : List Scn} {f : WF} (h : WOk L f) (d a : ByteArray) : WOk L (del f d a) := by
  intro d' a' p hp
  unfold Ytloilkfloidnjaa.del at hp
  split at hp
  · cases hp
  · exact h d' a' p hp
theorem grown_of_below {w w' : World} (h : Below w.heap.size w w') : w.grownBy w' none :=
  ⟨h.os, h.tape, h.output, h.size, fun k hk _ => h.block k hk⟩
/-- A block of cells lies as it lay. -/
def Same (B : Nat) (W W' : World) : Prop := ∀ o : Obj, W.heap[B]? = some o → o.isCells = true → W'.heap[B]? = some o
theorem Same.trans {B : Nat} {X Y Z : World} (h : Same B X Y) (k : Same B Y Z) : Same B X Z := fun o ho hc => k o (h o ho hc) hc
theorem Same.grown {B : Nat} {X Y : World} {row : Option Nat} (h : X.grownBy Y row) (hne : ∀ r, row = some r → r ≠ B) : Same B X Y := fun _ ho _ =>
  (h.block B (Array.getElem?_eq_some_iff.1 ho).1 (fun e => hne B e.symm rfl)).trans ho
/-- What a round of a loop over the overlay keeps. -/
def Keep (n₀ B1 B2 : Nat) (W W' : World) : Prop := Below n₀ W W' ∧ KeepsWalks W W' ∧ Same B1 W W' ∧ Same B2 W W'
theorem Keep.trans {n₀ B1 B2 : Nat} {X Y Z : World} (h : Keep n₀ B1 B2 X Y) (k : Keep n₀ B1 B2 Y Z) : Keep n₀ B1 B2 X Z := ⟨h.1.trans k.1, h.2.1.trans k.2.1, h.2.2.1.trans k.2.2.1, h.2.2.2.trans k.2.2.2⟩
theorem cell_grown {w w1 : World} {b : Nat} (hg : w.grownBy w1 (some b)) {p : Addr} (hp : p.block < w.heap.size) (hne : p.block ≠ b) : w1.cell? p = w.cell? p := by
  have h := hg.block p.block hp (fun e => hne (by cases e; rfl))
  unfold World.cell?
  rw [h]
theorem MW.drew {w : World} {b n : Nat} {f : WF} (h : MW w b n f) : MW w.drew b n f := by
  obtain ⟨D, h1, h2, h3⟩ := h
  exact ⟨D, h1, h2, h3⟩
theorem below_refl_drew (W : World) : Below W.heap.size W W.drew := ⟨rfl, rfl, rfl, Nat.le_refl _, fun _ _ => rfl⟩
set_option maxRecDepth 100000 in
set_option maxHeartbeats 4000000 in
theorem iter1 (L : List Scn) (I : List Nat) (v vI : Value) (w0 : World) (hS : ScnsAt w0 v L) (hI : NatsAt w0 vI I) (hk : ∀ x ∈ L, x.ok) (hs : ∀ x ∈ L, x.sets.length ≤ 20) (hl : L.length ≤ 12) (hIl : I.length ≤ 40) (hIr : ∀ i ∈ I, i < L.length)
    (n : Nat) (hn : 1 ≤ n) (l B1 B2 : Nat) (J Jx : List Sett → World → Prop) (xs : List Sett) (hxs : Hid (xs = yl L (outW L I I.length) (remI L I 0)))
    (hY : ∀ pre x W, J pre W → pre.length < xs.length → YieldAt Fence.wide (n - 1) Try.prog l #[x.val] W fun e W' =>
      (e = .returned (.bool true) ∧ J (pre ++ [x]) W' ∧ Keep w0.heap.size B1 B2 W W') ∨ (e = .returned (.bool false) ∧ Jx (pre ++ [x]) W'))
    (W : World) (hJ : AbidesFrom W.heap.size J) (hb0 : Below w0.heap.size w0 W) (h1 : Boxed W B1 22 v) (h2 : Boxed W B2 52 vI) (h0 : J [] W) :
    CallsIn Fence.wide n Try.prog 28 #[.func (.yield l) #[] #[], .pointer (some ⟨B1, 0, none⟩), .pointer (some ⟨B2, 0, none⟩)] W fun e W' => (∃ v, e = .returned v) ∧
      ((∃ ys, ys = xs ∧ J ys W') ∨ (∃ pre, pre <+: xs ∧ Jx pre W')) := by
  have hmo : Try.prog.follows .mixedOrders = true := by kernel_rfl
  obtain ⟨a, cap, rfl, hc⟩ := hS.open
  have HS0 := Lib.hid hS
  have HI0 := Lib.hid hI
  obtain ⟨an, capn, rfl, hcn⟩ := hI
  have HY := Lib.hid hY
  have HJ0 := Lib.hid (show ∀ s A B, J s A → Below A.heap.size A B → J s B from fun s A B h hb => hJ s A B none h (grown_of_below hb) (by simp))
  have HJ1 := Lib.hid (show ∀ s A B b, J s A → A.grownBy B (some b) → W.heap.size ≤ b → (∃ o : Obj, A.heap[b]? = some o ∧ o.isWalk = true) → J s B from fun s A B b h hg hb ho => hJ s A B (some b) h hg (fun r e => by cases e; exact ⟨hb, ho⟩))
  have HC := Lib.hid hc
  have HN := Lib.hid hcn
  have HK := Lib.hid hk
  have HS := Lib.hid hs
  have HIr := Lib.hid hIr
  have hc1 := h1.cell
  have hc2 := h2.cell
  have HB1 := Lib.hid h1
  have HB2 := Lib.hid h2
  have HB0 := Lib.hid hb0
  have hsz0 := hb0.size
  have hl1 := h1.lt
  have hl2 := h2.lt
  have HW := Lib.hid (winners_any (.slice a L.length cap) (.slice an I.length capn) L I W (hS.step hb0) hk hs hl (HI0.out.step hb0) hIl hIr)
  clear hY hJ hc hcn hk hs hIr h1 h2 hb0 hS
  refine callsIn_of_wp Try.func28 rfl trivial ?_ rfl
  simp only [Try.ntmps28, List.size_toArray, List.length_cons, List.length_nil, Nat.reduceAdd, Nat.reduceSub, Array.replicate_succ, Array.replicate_zero, List.push_toArray, List.append_toArray, List.nil_append, List.cons_append]
  refine wpIn_wide.2 (wp_scope_straight ((wpIn_wide (n := n)).1 ?_))
  gi_wp2_with (refine ⟨trivial, ?_⟩; gi_at_call 27; refine (callsIn_wide.2 HW.out).mono ?_; rintro e w1 ⟨rfl, hb1, hm1, hw1⟩; have hd2 := keep1 hb1 hc2)
  refine wpIn_label ?_
  gi_wp2
  have HM1 := Lib.hid hm1
  have HW1 := Lib.hid hw1
  have HX1 := Lib.hid (HB0.out.trans (hb1.mono hsz0))
  have HJ1' := Lib.hid (HJ0.out _ _ _ h0 hb1)
  have hz1 := hb1.size
  have HE1 := Lib.hid (Boxed.kept HB1.out (grown_of_below hb1) (by simp))
  have HE2 := Lib.hid (Boxed.kept HB2.out (grown_of_below hb1) (by simp))
  clear hm1 hw1 hb1
  gi_loopw [16] (fun i wr => ∃ (m : Nat) (F : WF) (pre : List Sett), m ≤ I.length ∧ i = .int .i64 m ∧ Hid (xs = pre ++ yl L F (remI L I m)) ∧ Hid (J pre wr) ∧ Hid (MW wr W.heap.size 1000 F) ∧ Hid (WOk L F) ∧ Hid (Below w0.heap.size w0 wr) ∧ Hid (Boxed wr B1 22 (.slice a L.length cap)) ∧ Hid (Boxed wr B2 52 (.slice an I.length capn))) (fun i _ => I.length - (intOf i).toNat)
  case atStart => exact ⟨0, _, [], by omega, rfl, hxs, HJ1', HM1, HW1, HX1, HE1, HE2⟩
  case round =>
    obtain ⟨m, F, pre, hm, rfl, HX, HJ, HM, HWk, HB, HE1, HE2⟩ := hrel
    by_cases hlt : m < I.length
    · obtain ⟨b2, o2, rfl, hcs⟩ := HN.out (by intro h; rw [h] at hlt; simp at hlt)
      have c0 := keep1 HB.out (hcs m _ (nat_get hlt))
      have hi := HIr.out _ (nat_mem hlt)
      have HRm := Lib.hid (remI_step (L := L) hlt)
      generalize I.getD m 0 = i at *
      obtain ⟨b, off, rfl, hsc⟩ := HC.out (by intro h; rw [h] at hi; simp at hi)
      have HSC := Lib.hid hsc
      obtain ⟨-, k1, sa, sc, k2, hss⟩ := hsc i hi
      have c1 := keep1 HB.out k1
      have c2 := keep1 HB.out k2
      have b1c := HE1.out.cell
      have HSS := Lib.hid hss
      clear k1 k2 hss hcs hsc
      have hs20 := HS.out _ (scn_mem hi)
      have hs20 : (stN L i).length ≤ 20 := hs20
      gi_wp2
      gi_loopw [26] (fun j w2 => ∃ (k : Nat) (F : WF) (pre : List Sett), k ≤ (stN L i).length ∧ j = .int .i64 k ∧ Hid (xs = pre ++ yl L F ((stN L i).drop k ++ remI L I (m + 1))) ∧ Hid (J pre w2) ∧ Hid (MW w2 W.heap.size 1000 F) ∧ Hid (WOk L F) ∧ Hid (Below w0.heap.size w0 w2) ∧ Hid (Boxed w2 B1 22 (.slice (some ⟨b, off, none⟩) L.length cap)) ∧ Hid (Boxed w2 B2 52 (.slice (some ⟨b2, o2, none⟩) I.length capn))) (fun j _ => (stN L i).length - (intOf j).toNat)
      case atStart => exact ⟨0, F, pre, by omega, rfl, Lib.hid (by rw [HX.out, HRm.out, List.drop_zero]), HJ, HM, HWk, HB, HE1, HE2⟩
      case round =>
        obtain ⟨k, F, pre, hk, rfl, HX, HJ, HM, HWk, HB, HE1, HE2⟩ := hrel
        by_cases hlt2 : k < (stN L i).length
        · have hss2 := HSS.out.step HB.out
          obtain ⟨sb, cap2, hsv, -, hsx⟩ := hss2
          simp only [Value.slice.injEq, true_and] at hsv
          obtain ⟨rfl, rfl⟩ := hsv
          obtain ⟨b3, o3, rfl, hcs⟩ := hsx (by intro h; rw [h] at hlt2; simp at hlt2)
          obtain ⟨e0, e1, e2, e3, e4⟩ := hcs k _ (getD_of hlt2)
          have hok := (HK.out _ (scn_mem hi)).2 _ (sett_mem hlt2)
          obtain ⟨hd, ha⟩ := hok
          have HD := Lib.hid (drop_get hlt2)
          rw [show (L.getD i zN).sets = stN L i from rfl] at hd ha
          generalize (stN L i).getD k zS = x at *
          obtain ⟨xd, xa, xn, xt, xu⟩ := x
          simp only at e0 e1 e2 e3 e4 hd ha
          have HL := Lib.hid (HM.out.alloc (.cells #[.string xd, .string xa, .string xn, .int .i64 xt, .string xu] 40))
          have hrun := HL.out.look hd ha
          clear hcs hsx
          have hsz := HB.out.size
          cases hf : F xd xa with
          | none =>
            have HX2 : Hid (xs = pre ++ yl L F ((stN L i).drop (k + 1) ++ remI L I (m + 1))) := Lib.hid (by rw [HX.out, HD.out, List.cons_append, yl_none hf])
            have hbb : Below wr.heap.size wr ((wr.alloc (.cells #[.string xd, .string xa, .string xn, .int .i64 xt, .string xu] 40)).alloc (.cells #[.int .i64 0, .int .i64 0] 61)) := ((Below.refl _ _).alloc (Nat.le_refl _) _).alloc (by simp) _
            have HJ2 := Lib.hid (HJ0.out _ _ _ HJ.out hbb)
            have HM2 := Lib.hid (HL.out.alloc (.cells #[.int .i64 0, .int .i64 0] 61))
            have HB2' := Lib.hid (HB.out.trans (hbb.mono hsz))
            have HE1' := Lib.hid (Boxed.kept HE1.out (grown_of_below hbb) (by simp))
            have HE2' := Lib.hid (Boxed.kept HE2.out (grown_of_below hbb) (by simp))
            rw [hf] at hrun
            simp only [rV, wV, Option.getD_none, Option.isSome_none] at hrun
            clear hbb
            gi_wp2
            go_roundw
            case rel => exact ⟨k + 1, F, pre, by omega, by go_num, HX2, HJ2, HM2, HWk, HB2', HE1', HE2'⟩
            case measure => simp [intOf]; omega
          | some p =>
            have hp := HWk.out xd xa p hf
            have HX2 : Hid (xs = pre ++ (stN L p.1).getD p.2 zS :: yl L (Ytloilkfloidnjaa.del F xd xa) ((stN L i).drop (k + 1) ++ remI L I (m + 1))) := Lib.hid (by rw [HX.out, HD.out, List.cons_append, yl_some hf])
            have hbb : Below wr.heap.size wr ((wr.alloc (.cells #[.string xd, .string xa, .string xn, .int .i64 xt, .string xu] 40)).alloc (.cells #[.int .i64 (p.1 : Int), .int .i64 (p.2 : Int)] 61)) := ((Below.refl _ _).alloc (Nat.le_refl _) _).alloc (by simp) _
            have HJ2 := Lib.hid (HJ0.out _ _ _ HJ.out hbb)
            have hm2 := HL.out.alloc (.cells #[.int .i64 (p.1 : Int), .int .i64 (p.2 : Int)] 61)
            have hb2' := HB.out.trans (hbb.mono hsz)
            have he1' := Boxed.kept HE1.out (grown_of_below hbb) (by simp)
            have he2' := Boxed.kept HE2.out (grown_of_below hbb) (by simp)
            have hlw := HM.out.lt
            obtain ⟨w1, hst, hm1, hg⟩ := hm2.drop hd ha 0
            have z0 : w1.cell? ⟨wr.heap.size + 1, 0, none⟩ = some (.int .i64 (p.1 : Int)) := (cell_grown hg (by simp) (by simp; omega)).trans (cell_new' (wr.alloc (.cells #[.string xd, .string xa, .string xn, .int .i64 xt, .string xu] 40)) #[.int .i64 (p.1 : Int), .int .i64 (p.2 : Int)] 61 (wr.heap.size + 1) (by simp) 0)
            have z1 : w1.cell? ⟨wr.heap.size + 1, 1, none⟩ = some (.int .i64 (p.2 : Int)) := (cell_grown hg (by simp) (by simp; omega)).trans (cell_new' (wr.alloc (.cells #[.string xd, .string xa, .string xn, .int .i64 xt, .string xu] 40)) #[.int .i64 (p.1 : Int), .int .i64 (p.2 : Int)] 61 (wr.heap.size + 1) (by simp) 1)
            have hj1 := HJ1.out _ _ _ W.heap.size HJ2.out hg (Nat.le_refl _) hm2.walk
            have HJ3 := Lib.hid (HJ0.out _ _ _ hj1 (below_refl_drew w1))
            have HM3 := Lib.hid hm1.drew
            have hb3 := hb2'.grown hg (Nat.le_trans hb2'.size (Nat.le_refl _)) (fun j hj => by cases hj; exact hsz0)
            have he1w := Boxed.kept he1' hg (by simp; omega)
            have he2w := Boxed.kept he2' hg (by simp; omega)
            have b1w := he1w.cell
            obtain ⟨-, -, sa', sc', s2, hss'⟩ := HSC.out p.1 hp.1
            have s2w := keep1 hb3 s2
            obtain ⟨sb', sc2', hsv, -, hsx⟩ := hss'.step hb3
            simp only [Value.slice.injEq, true_and] at hsv
            obtain ⟨rfl, rfl⟩ := hsv
            have hp2 := hp.2
            have hp1 : (p.1 : Int) < L.length := by have := hp.1; omega
            have hp2i : (p.2 : Int) < (stN L p.1).length := by omega
            obtain ⟨b5, o5, rfl, hcs⟩ := hsx (by intro h; rw [h] at hp2; simp at hp2)
            obtain ⟨y0, y1, y2, y3, y4⟩ := hcs p.2 _ (getD_of hp2)
            have HB3 := Lib.hid (hb3.trans (below_drew _ _))
            have HE1w := Lib.hid he1w
            have HE2w := Lib.hid he2w
            rw [hf] at hrun
            simp only [rV, wV, Option.getD_some, Option.isSome_some] at hrun hst
            obtain ⟨ps, pk⟩ := p
            simp only at *
            generalize (stN L ps).getD pk zS = y at *
            have HLen := Lib.hid (show pre.length < xs.length by rw [HX2.out]; simp)
            obtain ⟨fn, tmps, assign, body, hy, hR0⟩ := HY.out pre y w1.drew HJ3.out HLen.out
            have hR : RoundIn Fence.wide (n - 1) Try.prog l fn tmps assign body w1.drew (fun e W' => ∃ t : Bool, e = .returned (.bool t) ∧ ((t = true ∧ J (pre ++ [y]) W' ∧ Keep w0.heap.size B1 B2 w1.drew W') ∨ (t = false ∧ Jx (pre ++ [y]) W'))) :=
              hR0.mono fun e W' h => h.elim (fun h => ⟨true, h.1, .inl ⟨rfl, h.2⟩⟩) (fun h => ⟨false, h.1, .inr ⟨rfl, h.2⟩⟩)
            clear hR0 hbb he1' he2' hb2' hj1 hm2 hm1 hg hb3 he1w he2w hcs hsx hss' s2 hp
            obtain ⟨yd, ya, yn, yt, yu⟩ := y
            unfold Sett.val at hy
            simp only at y0 y1 y2 y3 y4 hy
            generalize (stN L ps).length = nl at *
            gi_wp2
            gi_region_with_o (first | (refine hR.mono ?_; rintro e W3 ⟨t, rfl, h3⟩))
            all_goals
              rcases h3 with ⟨rfl, hJ3, hk1, hk2, hk3, hk4⟩ | ⟨rfl, hJx3⟩
              · have HX4 : Hid (xs = (pre ++ [(⟨yd, ya, yn, yt, yu⟩ : Sett)]) ++ yl L (Ytloilkfloidnjaa.del F xd xa) ((stN L i).drop (k + 1) ++ remI L I (m + 1))) := Lib.hid (by rw [HX2.out, List.append_assoc]; rfl)
                have HJ4 := Lib.hid hJ3
                have HM4 := Lib.hid (HM3.out.walks hk2)
                have HW4 := Lib.hid (HWk.out.del xd xa)
                have HB4 := Lib.hid (HB3.out.trans hk1)
                have HE14 := Lib.hid (hk3 _ (show Boxed w1.drew B1 _ _ from HE1w.out) rfl)
                have HE24 := Lib.hid (hk4 _ (show Boxed w1.drew B2 _ _ from HE2w.out) rfl)
                clear hJ3 hk1 hk2 hk3 hk4 hR hy
                gi_wp2
                go_roundw
                case rel => exact ⟨k + 1, _, _, by omega, by go_num, HX4, HJ4, HM4, HW4, HB4, HE14, HE24⟩
                case measure => simp [intOf]; omega
              · have HX4 : Hid ((pre ++ [(⟨yd, ya, yn, yt, yu⟩ : Sett)]) <+: xs) := Lib.hid ⟨yl L (Ytloilkfloidnjaa.del F xd xa) ((stN L i).drop (k + 1) ++ remI L I (m + 1)), by rw [HX2.out, List.append_assoc]; rfl⟩
                have HJ4 := Lib.hid hJx3
                clear hJx3 hR hy
                gi_wp2
                rw [Exit.noGoto_normal]
                go_end0
                exact ⟨⟨_, rfl⟩, .inr ⟨_, HX4.out, HJ4.out⟩⟩
        · have hkl : k = (stN L i).length := by omega
          subst hkl
          have HX2 : Hid (xs = pre ++ yl L F (remI L I (m + 1))) := Lib.hid (by rw [HX.out, List.drop_length, List.nil_append])
          gi_wp2
          go_roundw
          case rel => exact ⟨m + 1, F, pre, by omega, by go_num, HX2, HJ, HM, HWk, HB, HE1, HE2⟩
          case measure => simp [intOf]; omega
    · have hml : m = I.length := by omega
      subst hml
      have HX2 : Hid (pre = xs) := Lib.hid (by rw [HX.out, remI_end (Nat.le_refl _), yl, List.append_nil])
      gi_wp2
      rw [Exit.noGoto_normal]
      go_end0
      exact ⟨⟨_, rfl⟩, .inl ⟨_, HX2.out, HJ.out⟩⟩
end Go.Proofs.Ytloilkfloidnjaa
