/- Shedding: the keeping. -/
import Derived.Sort.QuietIn
import Derived.Shelf.Abstract
import Derived.Test.YtpablikcidlkaaaSk
import Derived.Test.YtpablikcidlkaaaIvn
namespace Go.Proofs.Ytpablikcidlkaaa
open Go.RowKit Go.Shelf
attribute [local go_sem] Oper.semAt_some

theorem BoxN.frozen {W : World} {B : Nat} {t : TypeId} {vs : Array Value} (h : BoxN W B vs t) (j : Nat) : W.frozen? ⟨B, j, none⟩ = false := frozen_of_row _ _ _ _ _ h
theorem BoxN.set {W : World} {B j : Nat} {t : TypeId} {vs vs' : Array Value} {v : Value} (h : BoxN W B vs t) (hv : vs.setIfInBounds j v = vs') : BoxN (W.setCell ⟨B, j, none⟩ v) B vs' t := by
  unfold BoxN
  rw [heap_setCell_same _ _ _ _ _ _ h, hv]
theorem BoxN.other {W : World} {B B' : Nat} {t : TypeId} {vs : Array Value} (h : BoxN W B vs t) (hne : B ≠ B') (j : Nat) (u : Value) : BoxN (W.setCell ⟨B', j, none⟩ u) B vs t := (heap_setCell_other _ _ _ _ hne).trans h
theorem BoxN.grown {W W' : World} {B : Nat} {t : TypeId} {vs : Array Value} {row : Option Nat} (h : BoxN W B vs t) (hg : W.grownBy W' row) (hr : ∀ r, row = some r → ∃ o : Obj, W.heap[r]? = some o ∧ o.isCells = false) : BoxN W' B vs t := by
  refine (hg.block B h.lt fun e => ?_).trans h
  obtain ⟨o, ho, hc⟩ := hr B e.symm
  rw [show W.heap[B]? = _ from h] at ho
  cases ho
  cases hc
theorem inOrder_any (a : Option Addr) (n c : Nat) (w : World) : Calls Try.prog 33 #[.slice a n c, .func (.func 34) #[] #[]] w fun e w' => e = .returned (.func (.func 36) #[] #[.pointer (some ⟨w.heap.size, 0, none⟩), .pointer (some ⟨w.heap.size + 1, 0, none⟩)]) ∧ w' = (w.alloc (.cells #[.slice a n c] 22)).alloc (.cells #[.func (.func 34) #[] #[]] 58) := by
  go_enter Try.func33, Try.ntmps33
  go_wp2
  go_ret
  exact ⟨by simp, rfl⟩
theorem byPri2_any (a : Option Addr) (n c : Nat) (w : World) : Calls Try.prog 31 #[.slice a n c] w fun e w' => e = .returned (.func (.func 36) #[] #[.pointer (some ⟨w.heap.size, 0, none⟩), .pointer (some ⟨w.heap.size + 1, 0, none⟩)]) ∧ w' = (w.alloc (.cells #[.slice a n c] 22)).alloc (.cells #[.func (.func 34) #[] #[]] 58) := by
  go_enter Try.func31, Try.ntmps31
  go_wp2_with fail
  refine (inOrder_any a n c _).mono ?_
  rintro e w2 ⟨rfl, rfl⟩
  go_wp2
  go_ret
  exact ⟨by simp, rfl⟩
/-- One consumer is taken, where the limit allows it. -/
def kst (l : List (Int × Int)) (lim : Nat → Int) (st : Int × List Bool) (i : Nat) : Int × List Bool := if st.1 + pow l i ≤ lim i then (st.1 + pow l i, st.2.set i true) else st
def kfo (l : List (Int × Int)) (lim : Nat → Int) (pre : List Nat) : Int × List Bool := pre.foldl (kst l lim) (0, List.replicate l.length false)
theorem kfo_snoc (l : List (Int × Int)) (lim : Nat → Int) (pre : List Nat) (x : Nat) : kfo l lim (pre ++ [x]) = kst l lim (kfo l lim pre) x := by simp [kfo]
def bArr (s : List Bool) : Array Value := (s.map Value.bool).toArray
theorem kst_len (l : List (Int × Int)) (lim : Nat → Int) (st : Int × List Bool) (i : Nat) : (kst l lim st i).2.length = st.2.length := by unfold kst; split <;> simp
theorem kfo_len (l : List (Int × Int)) (lim : Nat → Int) (pre : List Nat) : (kfo l lim pre).2.length = l.length := by
  unfold kfo
  suffices ∀ (st : Int × List Bool), (pre.foldl (kst l lim) st).2.length = st.2.length by rw [this]; simp
  induction pre with
  | nil => intro st; rfl
  | cons x pre ih => intro st; rw [List.foldl_cons, ih, kst_len]
theorem kfo_sum (l : List (Int × Int)) (lim : Nat → Int) (hp : ∀ i, 0 ≤ pow l i ∧ pow l i ≤ 1000000) (pre : List Nat) : 0 ≤ (kfo l lim pre).1 ∧ (kfo l lim pre).1 ≤ pre.length * 1000000 := by
  unfold kfo
  suffices ∀ (st : Int × List Bool), 0 ≤ st.1 → 0 ≤ (pre.foldl (kst l lim) st).1 ∧ (pre.foldl (kst l lim) st).1 ≤ st.1 + pre.length * 1000000 by
    have := this (0, List.replicate l.length false) (by simp)
    simpa using this
  induction pre with
  | nil => intro st h; simp; exact h
  | cons x pre ih =>
    intro st h
    have hx := hp x
    have h1 : 0 ≤ (kst l lim st x).1 ∧ (kst l lim st x).1 ≤ st.1 + 1000000 := by
      unfold kst
      split
      · simp only; omega
      · omega
    have := ih (kst l lim st x) h1.1
    rw [List.foldl_cons]
    simp only [List.length_cons]
    omega
theorem six (w : World) (v1 v2 v3 v4 v5 v6 : Array Value) (t1 t2 t3 t4 t5 t6 : TypeId) (W0 : World) (h : ((((((w.alloc (.cells v1 t1)).alloc (.cells v2 t2)).alloc (.cells v3 t3)).alloc (.cells v4 t4)).alloc (.cells v5 t5)).alloc (.cells v6 t6)) = W0) :
    (BoxN W0 w.heap.size v1 t1 ∧ BoxN W0 (w.heap.size + 1) v2 t2 ∧ BoxN W0 (w.heap.size + 1 + 1) v3 t3 ∧ BoxN W0 (w.heap.size + 1 + 1 + 1) v4 t4 ∧ BoxN W0 (w.heap.size + 1 + 1 + 1 + 1) v5 t5 ∧ BoxN W0 (w.heap.size + 1 + 1 + 1 + 1 + 1) v6 t6) ∧ Below w.heap.size w W0 ∧ W0.heap.size = w.heap.size + 1 + 1 + 1 + 1 + 1 + 1 := by
  subst h
  have a1 := fun (W : World) (o : Obj) => al W o
  refine ⟨⟨?_, ?_, ?_, ?_, ?_, ?_⟩, ?_, by simp⟩
  · exact (((((BoxN.new w v1 t1 rfl).step (al _ _)).step (al _ _)).step (al _ _)).step (al _ _)).step (al _ _)
  · exact ((((BoxN.new _ v2 t2 (by simp)).step (al _ _)).step (al _ _)).step (al _ _)).step (al _ _)
  · exact (((BoxN.new _ v3 t3 (by simp)).step (al _ _)).step (al _ _)).step (al _ _)
  · exact ((BoxN.new _ v4 t4 (by simp)).step (al _ _)).step (al _ _)
  · exact (BoxN.new _ v5 t5 (by simp)).step (al _ _)
  · exact BoxN.new _ v6 t6 (by simp)
  · exact keep2 (al _ _) (keep2 (al _ _) (keep2 (al _ _) (keep2 (al _ _) (keep2 (al _ _) (al _ _)))))
/-- The variables of the keeping. -/
def KI (w : World) (l : List (Int × Int)) (lim : Nat → Int) (N n1 RB KB SLB SB : Nat) (fv : Value) (pre : List (Fin N)) (W : World) : Prop :=
  (BoxN W RB #[fv] 45 ∧ BoxN W KB (bArr (kfo l lim (pre.map Fin.val)).2) 4 ∧ BoxN W SLB #[.slice (some ⟨KB, 0, none⟩) N N] 23 ∧ BoxN W SB #[.int .i64 (kfo l lim (pre.map Fin.val)).1] 3) ∧ Below w.heap.size w W ∧ n1 ≤ W.heap.size
theorem KI_own (w : World) (l : List (Int × Int)) (lim : Nat → Int) (N n1 RB KB SLB SB : Nat) (fv : Value) (B : Nat) (hB : w.heap.size ≤ B) : OwnFrom B (KI w l lim N n1 RB KB SLB SB fv) := by
  refine OwnFrom.and ?_ (OwnFrom.and (ownFrom_below (Nat.le_refl _) hB) (fun _ _ _ _ h hg _ => Nat.le_trans h hg.size))
  intro s W W' row h hg hr
  have hr2 : ∀ r, row = some r → ∃ o : Obj, W.heap[r]? = some o ∧ o.isCells = false := fun r e => (hr r e).2
  exact ⟨h.1.grown hg hr2, h.2.1.grown hg hr2, h.2.2.1.grown hg hr2, h.2.2.2.grown hg hr2⟩
theorem kq_two (n0 KB SB j k : Nat) (W : World) (u v : Value) (h1 : n0 ≤ KB) (h2 : n0 ≤ SB) : Kq n0 KB SB W ((W.setCell ⟨KB, j, none⟩ u).setCell ⟨SB, k, none⟩ v) := by
  refine ⟨((Below.refl _ W).setCell (p := ⟨KB, j, none⟩) h1 u).setCell (p := ⟨SB, k, none⟩) h2 v, fun i o e1 e2 h _ => ?_⟩
  exact (heap_setCell_other _ _ _ _ (by simpa using e2)).trans ((heap_setCell_other _ _ _ _ (by simpa using e1)).trans h)
theorem bArr_set (s : List Bool) (i : Nat) : (bArr s).setIfInBounds i (.bool true) = bArr (s.set i true) := by
  unfold bArr
  rw [List.map_set]
  simp
set_option maxRecDepth 100000 in
set_option maxHeartbeats 8000000 in
theorem keep_in (l : List (Int × Int)) (va : Option Addr) (vc : Nat) (lim : Nat → Int) (fid : Nat) (caps : Array Value) (w : World) (hL : ConsAt w (.slice va l.length vc) l) (hn : l.length ≤ 100000) (hp : ∀ i, 0 ≤ pow l i ∧ pow l i ≤ 1000000)
    (hlim : ∀ W, Below w.heap.size w W → ∀ i : Nat, i < l.length → Calls Try.prog fid (#[.int .i64 i] ++ caps) W fun e w' => e = .returned (.int .i64 (lim i)) ∧ w' = W)
    (hlb : ∀ i, -2000000000 ≤ lim i ∧ lim i ≤ 2000000000) (heg : ∀ args w, (callFunc fid args).run Try.prog w = .ok (.enter fid args) w) :
    CallsIn Fence.wide 9 Try.prog 24 #[.agg #[.func (.func fid) #[] caps], .slice va l.length vc] w fun e w' => ∃ g s, e = .returned (.slice (some ⟨g, 0, none⟩) l.length l.length) ∧ w.heap.size ≤ g ∧ BoxN w' g (bArr (kfo l lim s).2) 4 ∧ IsST (pri l) 0 l.length s ∧ Below w.heap.size w w' := by
  obtain ⟨N, hN⟩ : ∃ N, l.length = N := ⟨_, rfl⟩
  have HL := Lib.hid hL
  have HLIM := Lib.hid hlim
  have HPW := Lib.hid hp
  have HLB := Lib.hid hlb
  have HEG := Lib.hid heg
  have hmk := hmkB N (by rw [← hN]; exact hn)
  rw [hN] at hn HL HLIM ⊢
  have HN := Lib.hid hN
  clear hL hlim hp hlb heg hN
  refine callsIn_of_wp_marks Try.func24 rfl trivial ?_ rfl
  simp only [Try.ntmps24, List.size_toArray, List.length_cons, List.length_nil, Nat.reduceAdd, Nat.reduceSub, Array.replicate_succ, Array.replicate_zero, List.push_toArray, List.append_toArray, List.nil_append, List.cons_append]
  gi_wp2_with fail
  refine ⟨trivial, ?_⟩
  refine (callsIn_wide.2 (byPri2_any va N vc _)).mono ?_
  rintro e w1 ⟨rfl, rfl⟩
  gi_wp2
  obtain ⟨W0, hW0⟩ : ∃ W0, ((((((w.alloc (.cells #[.func (.func fid) #[] caps] 45)).alloc (.cells (Array.replicate N (.bool false)) 4)).alloc (.cells #[.slice (some ⟨w.heap.size + 1, 0, none⟩) N N] 23)).alloc (.cells #[.int .i64 0] 3)).alloc (.cells #[.slice va N vc] 22)).alloc (.cells #[.func (.func 34) #[] #[]] 58)) = W0 := ⟨_, rfl⟩
  obtain ⟨⟨q1, q2, q3, q4, q5, q6⟩, hB0, hsz⟩ := six w _ _ _ _ _ _ _ _ _ _ _ _ W0 hW0
  rw [hW0]
  clear hW0 hmk
  refine wpIn_rangeFunc_ownH rfl (by omega) (gf := 36) (lb := #[.pointer (some ⟨w.heap.size + 1 + 1 + 1 + 1, 0, none⟩), .pointer (some ⟨w.heap.size + 1 + 1 + 1 + 1 + 1, 0, none⟩)]) rfl trivial (enters_of Try.func36 (by kernel_rfl) rfl)
    (iter_stops l N HN.out (.slice va N vc) hn w W0 w.heap.size (w.heap.size + 1) (w.heap.size + 1 + 1 + 1) (w.heap.size + 1 + 1 + 1 + 1 + 1) (w.heap.size + 1 + 1 + 1 + 1) HL.out (Nat.le_refl _) ⟨by omega, by omega⟩ ⟨by omega, by omega⟩ ⟨hB0, q6, q5⟩ (by omega) (by omega) (by omega) 8 (by omega))
    Kq.trans (fun W l o o' => Kq.putObj (by omega) W l o o') (Below.refl _ _) (fun _ => rfl)
    (KI w l lim N W0.heap.size (w.heap.size) (w.heap.size + 1) (w.heap.size + 1 + 1) (w.heap.size + 1 + 1 + 1) (.func (.func fid) #[] caps)) (fun _ _ _ => False) (KI_own w l lim N _ _ _ _ _ _ _ (by omega)) (fun _ _ _ _ _ hs _ _ => hs)
    ⟨⟨q1, by have e : bArr (kfo l lim (([] : List (Fin N)).map Fin.val)).2 = Array.replicate N (.bool false) := (by simp [kfo, bArr, HN.out])
             rw [e]; exact q2, q3, q4⟩, hB0, Nat.le_refl _⟩
    (fun x a' W => ∃ Bx, W0.heap.size ≤ Bx ∧ BoxN W Bx #[.int .i64 (pow l x.1), .int .i64 (pri l x.1)] 34 ∧ a' = { tmps := #[.agg #[.func (.func fid) #[] caps], .slice va N vc, .pointer (some ⟨w.heap.size, 0, none⟩), undef, .slice none 0 0, .pointer (some ⟨w.heap.size + 1 + 1, 0, none⟩), .pointer (some ⟨w.heap.size + 1 + 1 + 1, 0, none⟩), .int .i64 x.1, .pointer (some ⟨Bx, 0, none⟩), .slice va N vc, .int .i64 N, .slice (some ⟨w.heap.size + 1, 0, none⟩) N N, .slice va N vc, .func (.func 36) #[] #[.pointer (some ⟨w.heap.size + 1 + 1 + 1 + 1, 0, none⟩), .pointer (some ⟨w.heap.size + 1 + 1 + 1 + 1 + 1, 0, none⟩)], .int .i64 x.1, .agg #[.int .i64 (pow l x.1), .int .i64 (pri l x.1)], undef, undef, undef, undef, undef, undef, undef, undef, undef, undef, undef, undef, undef, undef, undef, undef, undef], defers := [] })
    (fun x a' _ X Y row hs hg hr => by obtain ⟨Bx, h1, h2, h3⟩ := hs; exact ⟨Bx, h1, h2.grown hg (fun r e => (hr r e).2), h3⟩)
    ?assign ?body ?done ?stop
  case assign =>
    rintro lp pre x W K hI hK
    have hsW := hI.2.2
    have hvx : cen l x.1 = #[.int .i64 x.1, .agg #[.int .i64 (pow l x.1), .int .i64 (pri l x.1)]] := rfl
    rw [hvx]
    gi_wp2
    exact hK _ _ ((KeepsOthers.alloc _ _).from _) (Kq.of_below (al W _) (by omega)) (OwnFrom.alloc (KI_own w l lim N _ _ _ _ _ _ W0.heap.size (by omega)) _ hI) ⟨W.heap.size, hsW, World.alloc_heap_new W _, rfl⟩
  case body =>
    rintro lp pre x a' W hl ⟨r, hr⟩ ⟨⟨k0, k1, k2, k3⟩, hBW, hsW⟩ ⟨Bx, hBx, bX, rfl⟩ hlt
    obtain ⟨x, hxN⟩ := x
    replace bX : BoxN W Bx #[.int .i64 (pow l x), .int .i64 (pri l x)] 34 := bX
    have hsn := kfo_snoc l lim (pre.map Fin.val) x
    have hle : (kfo l lim (pre.map Fin.val)).2.length = N := by rw [kfo_len]; exact HN.out
    have hsu := kfo_sum l lim HPW.out (pre.map Fin.val)
    have HPRE := Lib.hid (show (pre ++ [(⟨x, hxN⟩ : Fin N)]).map Fin.val = pre.map Fin.val ++ [x] by simp)
    rw [List.length_map] at hsu
    have hpl : pre.length ≤ N := Nat.le_of_lt hlt
    have hpx := HPW.out x
    have hlx := HLB.out x
    obtain ⟨st, hst⟩ : ∃ st, kfo l lim (pre.map Fin.val) = st := ⟨_, rfl⟩
    rw [hst] at hsn hle hsu k1 k3
    obtain ⟨sm, kl⟩ := st
    simp only at hle hsu k1 k3
    have HSN := Lib.hid hsn
    unfold kst at hsn
    simp only at hsn
    have x0 := (bX.cell 0).trans (rfl : _ = some (Value.int .i64 (pow l x)))
    have c0 := (k0.cell 0).trans (rfl : _ = some (Value.func (.func fid) #[] caps))
    have c2 := (k2.cell 0).trans (rfl : _ = some (Value.slice (some ⟨w.heap.size + 1, 0, none⟩) N N))
    have c3 := (k3.cell 0).trans (rfl : _ = some (Value.int .i64 sm))
    have z0 := bX.lt
    have z1 := k1.lt
    have z2 := k2.lt
    have z3 := k3.lt
    have z4 := k0.lt
    have HLIMX := Lib.hid (fun (W : World) (hb : Below w.heap.size w W) => HLIM.out W hb x hxN)
    have heg := HEG.out
    show (Code.block _ _).wpIn _ _ _ _ { tmps := #[.agg #[.func (.func fid) #[] caps], .slice va N vc, .pointer (some ⟨w.heap.size, 0, none⟩), undef, .slice none 0 0, .pointer (some ⟨w.heap.size + 1 + 1, 0, none⟩), .pointer (some ⟨w.heap.size + 1 + 1 + 1, 0, none⟩), .int .i64 x, .pointer (some ⟨Bx, 0, none⟩), .slice va N vc, .int .i64 N, .slice (some ⟨w.heap.size + 1, 0, none⟩) N N, .slice va N vc, .func (.func 36) #[] #[.pointer (some ⟨w.heap.size + 1 + 1 + 1 + 1, 0, none⟩), .pointer (some ⟨w.heap.size + 1 + 1 + 1 + 1 + 1, 0, none⟩)], .int .i64 x, .agg #[.int .i64 (pow l x), .int .i64 (pri l x)], undef, undef, undef, undef, undef, undef, undef, undef, undef, undef, undef, undef, undef, undef, undef, undef, undef], defers := [] } W
    obtain ⟨pw, hpw⟩ : ∃ z, pow l x = z := ⟨_, rfl⟩
    obtain ⟨li, hli⟩ : ∃ z, lim x = z := ⟨_, rfl⟩
    rw [hpw] at hpx hsn x0 bX ⊢
    rw [hli] at hlx hsn HLIMX
    have HBX := Lib.hid bX
    have HK0 := Lib.hid k0
    have HK1 := Lib.hid k1
    have HK2 := Lib.hid k2
    have HK3 := Lib.hid k3
    have HBW := Lib.hid hBW
    clear hst hpw hli bX k0 k1 k2 k3 hBW HEG HLIM HLB HPW HSN hr q1 q2 q3 q4 q5 q6 hB0
    have hs2 : sm ≤ 100000 * 1000000 := by omega
    replace hsu := hsu.1
    have HSN := Lib.hid hsn
    clear hsn
    gi_wp2_with fail
    obtain ⟨lit, hlit⟩ : ∃ lit : (Nat → Value) → Act, lit = fun vs => { tmps := #[.agg #[.func (.func fid) #[] caps], .slice va N vc, .pointer (some ⟨w.heap.size, 0, none⟩), undef, .slice none 0 0, .pointer (some ⟨w.heap.size + 1 + 1, 0, none⟩), .pointer (some ⟨w.heap.size + 1 + 1 + 1, 0, none⟩), .int .i64 x, .pointer (some ⟨Bx, 0, none⟩), .slice va N vc, .int .i64 N, .slice (some ⟨w.heap.size + 1, 0, none⟩) N N, .slice va N vc, .func (.func 36) #[] #[.pointer (some ⟨w.heap.size + 1 + 1 + 1 + 1, 0, none⟩), .pointer (some ⟨w.heap.size + 1 + 1 + 1 + 1 + 1, 0, none⟩)], .int .i64 x, .agg #[.int .i64 pw, .int .i64 (pri l x)], vs 0, vs 1, vs 2, vs 3, vs 4, vs 5, vs 6, vs 7, vs 8, undef, undef, undef, undef, undef, undef, undef, undef], defers := [] } := ⟨_, rfl⟩
    have HLIT := Lib.hid hlit
    clear hlit
    obtain ⟨val, hval⟩ : ∃ val : List Value, val = [.int .i64 sm, .pointer (some ⟨Bx, 0, none⟩), .int .i64 pw, .int .i64 (sm + pw), .pointer (some ⟨w.heap.size, 0, none⟩), .func (.func fid) #[] caps, .int .i64 x, .int .i64 li, .bool (decide (sm + pw ≤ li))] := ⟨_, rfl⟩
    have E0 := Lib.hid (show val.getD 0 undef = .int .i64 sm by rw [hval]; rfl)
    have E1 := Lib.hid (show val.getD 1 undef = .pointer (some ⟨Bx, 0, none⟩) by rw [hval]; rfl)
    have E2 := Lib.hid (show val.getD 2 undef = .int .i64 pw by rw [hval]; rfl)
    have E3 := Lib.hid (show val.getD 3 undef = .int .i64 (sm + pw) by rw [hval]; rfl)
    have E4 := Lib.hid (show val.getD 4 undef = .pointer (some ⟨w.heap.size, 0, none⟩) by rw [hval]; rfl)
    have E5 := Lib.hid (show val.getD 5 undef = .func (.func fid) #[] caps by rw [hval]; rfl)
    have E6 := Lib.hid (show val.getD 6 undef = .int .i64 x by rw [hval]; rfl)
    have E7 := Lib.hid (show val.getD 7 undef = .int .i64 li by rw [hval]; rfl)
    have E8 := Lib.hid (show val.getD 8 undef = .bool (decide (sm + pw ≤ li)) by rw [hval]; rfl)
    clear hval
    refine region_inv_in (fun bf ac wv => ∃ vs : Nat → Value, ac = lit vs ∧ wv = W.drew ∧ ∀ i, bf i = true → vs i = val.getD i undef) (by kernel_rfl) (by decide +kernel) ?_ ?_ ?_
    · exact ⟨fun _ => undef, (by rw [HLIT.out]), rfl, fun i h => by cases h⟩
    · refine ⟨?_, ?_, ?_, ?_, ?_, ?_, ?_, ?_, ?_, trivial⟩
      · intro bf ac wv hfb haf hJ K' hK
        obtain ⟨vs, rfl, rfl, hG⟩ := hJ
        replace hK := Lib.hid hK
        replace hG := Lib.hid hG
        clear haf
        clear hfb
        rw [HLIT.out]
        have y : W.drew.cell? ⟨w.heap.size + 1 + 1 + 1, 0, none⟩ = some (.int .i64 sm) := c3
        go_simp
        exact hK.out _ _ ⟨(upw vs 0 (.int .i64 sm)), (by rw [HLIT.out]; rfl), rfl, up_wal 0 hG.out E0.out⟩
      · intro bf ac wv hfb haf hJ K' hK
        obtain ⟨vs, rfl, rfl, hG⟩ := hJ
        replace hK := Lib.hid hK
        replace hG := Lib.hid hG
        clear haf
        clear hfb
        rw [HLIT.out]
        go_simp
        exact hK.out _ _ ⟨(upw vs 1 (.pointer (some ⟨Bx, 0, none⟩))), (by rw [HLIT.out]; rfl), rfl, up_wal 1 hG.out E1.out⟩
      · intro bf ac wv hfb haf hJ K' hK
        obtain ⟨vs, rfl, rfl, hG⟩ := hJ
        replace hK := Lib.hid hK
        simp [Region.binds] at haf
        have e1 := (hG 1 (by simp [haf])).trans E1.out
        replace hG := Lib.hid hG
        clear haf
        clear hfb
        rw [HLIT.out]
        have y : W.drew.cell? ⟨Bx, 0, none⟩ = some (.int .i64 pw) := x0
        go_simp
        exact hK.out _ _ ⟨(upw vs 2 (.int .i64 pw)), (by rw [HLIT.out]; simp only [upw, e1, Nat.reduceBEq, cond_true, cond_false]), rfl, up_wal 2 hG.out E2.out⟩
      · intro bf ac wv hfb haf hJ K' hK
        obtain ⟨vs, rfl, rfl, hG⟩ := hJ
        replace hK := Lib.hid hK
        simp [Region.binds] at haf
        have e0 := (hG 0 (by simp [haf])).trans E0.out
        have e2 := (hG 2 (by simp [haf])).trans E2.out
        replace hG := Lib.hid hG
        clear haf
        clear hfb
        rw [HLIT.out]
        have tw : IntKind.i64.wrap (sm + pw) = sm + pw := IntWalk.i64_in _ (by omega)
        go_simp
        exact hK.out _ _ ⟨(upw vs 3 (.int .i64 (sm + pw))), (by rw [HLIT.out]; simp only [upw, e0, e2, Nat.reduceBEq, cond_true, cond_false]), rfl, up_wal 3 hG.out E3.out⟩
      · intro bf ac wv hfb haf hJ K' hK
        obtain ⟨vs, rfl, rfl, hG⟩ := hJ
        replace hK := Lib.hid hK
        replace hG := Lib.hid hG
        clear haf
        clear hfb
        rw [HLIT.out]
        go_simp
        exact hK.out _ _ ⟨(upw vs 4 (.pointer (some ⟨w.heap.size, 0, none⟩))), (by rw [HLIT.out]; rfl), rfl, up_wal 4 hG.out E4.out⟩
      · intro bf ac wv hfb haf hJ K' hK
        obtain ⟨vs, rfl, rfl, hG⟩ := hJ
        replace hK := Lib.hid hK
        simp [Region.binds] at haf
        have e4 := (hG 4 (by simp [haf])).trans E4.out
        replace hG := Lib.hid hG
        clear haf
        clear hfb
        rw [HLIT.out]
        have y : W.drew.cell? ⟨w.heap.size, 0, none⟩ = some (.func (.func fid) #[] caps) := c0
        go_simp
        exact hK.out _ _ ⟨(upw vs 5 (.func (.func fid) #[] caps)), (by rw [HLIT.out]; simp only [upw, e4, Nat.reduceBEq, cond_true, cond_false]), rfl, up_wal 5 hG.out E5.out⟩
      · intro bf ac wv hfb haf hJ K' hK
        obtain ⟨vs, rfl, rfl, hG⟩ := hJ
        replace hK := Lib.hid hK
        replace hG := Lib.hid hG
        clear haf
        clear hfb
        rw [HLIT.out]
        go_simp
        exact hK.out _ _ ⟨(upw vs 6 (.int .i64 x)), (by rw [HLIT.out]; rfl), rfl, up_wal 6 hG.out E6.out⟩
      · intro bf ac wv hfb haf hJ K' hK
        obtain ⟨vs, rfl, rfl, hG⟩ := hJ
        replace hK := Lib.hid hK
        simp [Region.binds] at haf
        have e5 := (hG 5 (by simp [haf])).trans E5.out
        have e6 := (hG 6 (by simp [haf])).trans E6.out
        replace hG := Lib.hid hG
        clear haf
        clear hfb
        rw [HLIT.out]
        go_simp
        refine ⟨trivial, ?_⟩
        refine (CallsIn.inRound lp (callsIn_wide.2 (HLIMX.out _ (HBW.out.trans (below_drew _ _))))).mono ?_
        rintro e w9 ⟨rfl, rfl⟩
        exact hK.out _ _ ⟨(upw vs 7 (.int .i64 li)), (by rw [HLIT.out]; simp only [upw, e5, e6, Nat.reduceBEq, cond_true, cond_false]), rfl, up_wal 7 hG.out E7.out⟩
      · intro bf ac wv hfb haf hJ K' hK
        obtain ⟨vs, rfl, rfl, hG⟩ := hJ
        replace hK := Lib.hid hK
        simp [Region.binds] at haf
        have e3 := (hG 3 (by simp [haf])).trans E3.out
        have e7 := (hG 7 (by simp [haf])).trans E7.out
        replace hG := Lib.hid hG
        clear haf
        clear hfb
        rw [HLIT.out]
        go_simp
        exact hK.out _ _ ⟨(upw vs 8 (.bool (decide (sm + pw ≤ li)))), (by rw [HLIT.out]; simp only [upw, e3, e7, Nat.reduceBEq, cond_true, cond_false]), rfl, up_wal 8 hG.out E8.out⟩
    · intro bf ac wv hall hJ
      obtain ⟨vs, rfl, rfl, hG⟩ := hJ
      have e0 := (hG 0 (hall 0 (by decide))).trans E0.out
      have e1 := (hG 1 (hall 1 (by decide))).trans E1.out
      have e2 := (hG 2 (hall 2 (by decide))).trans E2.out
      have e3 := (hG 3 (hall 3 (by decide))).trans E3.out
      have e4 := (hG 4 (hall 4 (by decide))).trans E4.out
      have e5 := (hG 5 (hall 5 (by decide))).trans E5.out
      have e6 := (hG 6 (hall 6 (by decide))).trans E6.out
      have e7 := (hG 7 (hall 7 (by decide))).trans E7.out
      have e8 := (hG 8 (hall 8 (by decide))).trans E8.out
      clear hall hG
      rw [HLIT.out]
      dsimp only
      rw [e0, e1, e2, e3, e4, e5, e6, e7, e8]
      clear e0 e1 e2 e3 e4 e5 e6 e7 e8
      clear E0 E1 E2 E3 E4 E5 E6 E7 E8 HLIT HLIMX heg
      have K0 := Lib.hid (HK0.out.step (below_drew _ _))
      have K1 := Lib.hid (HK1.out.step (below_drew _ _))
      have K2 := Lib.hid (HK2.out.step (below_drew _ _))
      have K3 := Lib.hid (HK3.out.step (below_drew _ _))
      have KX := Lib.hid (HBX.out.step (below_drew _ _))
      have KB0 := Lib.hid (HBW.out.trans (below_drew _ _))
      have KO := Lib.hid (KeepsOthers.drew W)
      have KQ := Lib.hid (Kq.of_below (n0 := w.heap.size) (KB := w.heap.size + 1) (SB := w.heap.size + 1 + 1 + 1) (below_drew W.heap.size W) (by omega))
      obtain ⟨Wd, hWd⟩ : ∃ z, W.drew = z := ⟨_, rfl⟩
      have hsd : Wd.heap.size = W.heap.size := by rw [← hWd]; simp
      rw [hWd] at K0 K1 K2 K3 KX KB0 KO KQ ⊢
      clear HK0 HK1 HK2 HK3 HBX HBW x0 c0 c2 c3 hWd
      have hsn := HSN.out
      clear HSN
      by_cases hc : sm + pw ≤ li
      · have hcb : decide (sm + pw ≤ li) = true := decide_eq_true hc
        rw [if_pos hc] at hsn
        have HS2 := Lib.hid hsn
        clear hsn
        have A1 := Lib.hid (K1.out.set (bArr_set kl x))
        have A3 := Lib.hid (K3.out.other (B' := w.heap.size + 1) (by omega) x (.bool true))
        have AX := Lib.hid (KX.out.other (B' := w.heap.size + 1) (by omega) x (.bool true))
        have C0 := Lib.hid ((K0.out.other (B' := w.heap.size + 1) (by omega) x (.bool true)).other (B' := w.heap.size + 1 + 1 + 1) (by omega) 0 (.int .i64 (sm + pw)))
        have C2 := Lib.hid ((K2.out.other (B' := w.heap.size + 1) (by omega) x (.bool true)).other (B' := w.heap.size + 1 + 1 + 1) (by omega) 0 (.int .i64 (sm + pw)))
        have C1 := Lib.hid (A1.out.other (B' := w.heap.size + 1 + 1 + 1) (by omega) 0 (.int .i64 (sm + pw)))
        have C3 := Lib.hid (A3.out.set (j := 0) (v := .int .i64 (sm + pw)) rfl)
        have CK := Lib.hid (KQ.out.trans (kq_two w.heap.size (w.heap.size + 1) (w.heap.size + 1 + 1 + 1) x 0 Wd (.bool true) (.int .i64 (sm + pw)) (by omega) (by omega)))
        have CO := Lib.hid ((KO.out.trans (KeepsOthers.setCell Wd ⟨w.heap.size + 1, x, none⟩ (.bool true))).trans (KeepsOthers.setCell _ ⟨w.heap.size + 1 + 1 + 1, 0, none⟩ (.int .i64 (sm + pw))))
        have CB := Lib.hid ((KB0.out.setCell (p := ⟨w.heap.size + 1, x, none⟩) (by show w.heap.size ≤ w.heap.size + 1; omega) (.bool true)).setCell (p := ⟨w.heap.size + 1 + 1 + 1, 0, none⟩) (by show w.heap.size ≤ w.heap.size + 1 + 1 + 1; omega) (.int .i64 (sm + pw)))
        have x0 := (KX.out.cell 0).trans (rfl : _ = some (Value.int .i64 pw))
        have c1 : Wd.cell? ⟨w.heap.size + 1, x, none⟩ = some (.bool (kl.getD x false)) := (K1.out.cell x).trans (by simp [bArr, hle, hxN])
        have f1 := K1.out.frozen x
        have c2 := (K2.out.cell 0).trans (rfl : _ = some (Value.slice (some ⟨w.heap.size + 1, 0, none⟩) N N))
        have c3 := (A3.out.cell 0).trans (rfl : _ = some (Value.int .i64 sm))
        have f3 := A3.out.frozen 0
        have x3 := (AX.out.cell 0).trans (rfl : _ = some (Value.int .i64 pw))
        have t1 : (x : Int) < (N : Int) := by omega
        generalize kl.getD x false = ob at *
        clear K0 K1 K2 K3 KX KB0 KO KQ A1 A3 AX hle
        gi_wp2_with fail
        refine ⟨CO.out.from _, CK.out, ⟨C0.out, ?_, C2.out, ?_⟩, CB.out, by have := CK.out.1.size; omega⟩
        · rw [HPRE.out, HS2.out]; exact C1.out
        · rw [HPRE.out, HS2.out]; exact C3.out
      · have hcb : decide (sm + pw ≤ li) = false := decide_eq_false hc
        rw [if_neg hc] at hsn
        have HS2 := Lib.hid hsn
        clear hsn
        gi_wp2_with fail
        refine ⟨KO.out.from _, KQ.out, ⟨K0.out, ?_, K2.out, ?_⟩, KB0.out, by omega⟩
        · rw [HPRE.out, HS2.out]; exact K1.out
        · rw [HPRE.out, HS2.out]; exact K3.out
  case done =>
    rintro D ys W hD hys ⟨⟨k0, k1, k2, k3⟩, hBW, hsW⟩ hK
    have c2 := (k2.cell 0).trans (rfl : _ = some (Value.slice (some ⟨w.heap.size + 1, 0, none⟩) N N))
    have z2 := k2.lt
    have HK1 := Lib.hid k1
    have HYs := Lib.hid hys
    clear hys k0 k1 k2 k3
    gi_wp2
    refine ⟨by simp, .inl ⟨_, _, rfl, run_takeDeferred hK, ?_⟩⟩
    exact ⟨_, results_tmp rfl _ _ _, _, _, rfl, (by show w.heap.size ≤ w.heap.size + 1; omega), HK1.out.grown (grownBy_putObj' W D _) (fun r e => by cases e; exact ⟨_, hK, rfl⟩), HYs.out, hBW.trans (belowK_b (w := w) (Nat.le_refl _) W D _ _ (by omega) hK rfl rfl)⟩
  case stop =>
    rintro D c pre W _ _ h _
    exact h.elim
theorem keep_any (l : List (Int × Int)) (va : Option Addr) (vc : Nat) (lim : Nat → Int) (fid : Nat) (caps : Array Value) (w : World) (hL : ConsAt w (.slice va l.length vc) l) (hn : l.length ≤ 100000) (hp : ∀ i, 0 ≤ pow l i ∧ pow l i ≤ 1000000)
    (hlim : ∀ W, Below w.heap.size w W → ∀ i : Nat, i < l.length → Calls Try.prog fid (#[.int .i64 i] ++ caps) W fun e w' => e = .returned (.int .i64 (lim i)) ∧ w' = W)
    (hlb : ∀ i, -2000000000 ≤ lim i ∧ lim i ≤ 2000000000) (heg : ∀ args w, (callFunc fid args).run Try.prog w = .ok (.enter fid args) w) :
    Calls Try.prog 24 #[.agg #[.func (.func fid) #[] caps], .slice va l.length vc] w fun e w' => ∃ g s, e = .returned (.slice (some ⟨g, 0, none⟩) l.length l.length) ∧ w.heap.size ≤ g ∧ BoxN w' g (bArr (kfo l lim s).2) 4 ∧ IsST (pri l) 0 l.length s ∧ Below w.heap.size w w' :=
  callsIn_wide.1 (keep_in l va vc lim fid caps w hL hn hp hlim hlb heg)

end Go.Proofs.Ytpablikcidlkaaa
