import Derived.Laws.CopyOwn
import Derived.Test.YtnanndmpbecdiaaLc
namespace Go.Proofs.Ytnanndmpbecdiaa
open Go.RowKit

theorem heg25 : ∀ args w, (callFunc 18 args).run Try.prog w = .ok (.enter 18 args) w := fun _ _ => by kernel_rfl
theorem heg22 : ∀ args w, (callFunc 15 args).run Try.prog w = .ok (.enter 15 args) w := fun _ _ => by kernel_rfl
/-- How many of the first k fit. -/
def cntN (p : Vo → Bool) (l : List Vo) : Nat → Nat
  | 0 => 0
  | k + 1 => cntN p l k + (if p (l.getD k zV) then 1 else 0)
theorem cntN_le (p : Vo → Bool) (l : List Vo) : ∀ k, cntN p l k ≤ k
  | 0 => by simp [cntN]
  | k + 1 => by have := cntN_le p l k; rw [cntN]; split <;> omega
theorem cntN_yes {p : Vo → Bool} {l : List Vo} {k : Nat} (h : p (l.getD k zV) = true) : cntN p l (k + 1) = cntN p l k + 1 := by rw [cntN, h]; rfl
theorem cntN_no {p : Vo → Bool} {l : List Vo} {k : Nat} (h : p (l.getD k zV) = false) : cntN p l (k + 1) = cntN p l k := by rw [cntN, h]; rfl
def agV (h f u now : Int) (x : Vo) : Bool := agB x.f x.h x.u h f u now
set_option maxRecDepth 100000 in
set_option maxHeartbeats 4000000 in
theorem count_any (v : Value) (L : List Vo) (h f u now : Int) (b1 b2 : Nat) (w : World) (hl : VosAt w v L) (h9 : L.length ≤ 1000) (t1 : 0 ≤ now) (t2 : now ≤ 1000000000) (hc1 : Cs w b1 (lsc h f u)) (hc2 : Cs w b2 #[.int .i64 now]) :
    Calls Try.prog 16 #[v, .func (.func 18) #[] #[.pointer (some ⟨b1, 0, none⟩), .pointer (some ⟨b2, 0, none⟩)]] w fun e w' => e = .returned (.int .i64 (cntN (agV h f u now) L L.length)) ∧ Below w.heap.size w w' := by
  have HL := Lib.hid hl
  obtain ⟨a, cap, rfl, -, -⟩ := hl
  have HC := Lib.hid (show ∀ (x : Vo) w1, Below w.heap.size w w1 → Calls Try.prog 18 #[.agg #[.int .i64 x.f, .int .i64 x.h, .int .i64 x.u], .pointer (some ⟨b1, 0, none⟩), .pointer (some ⟨b2, 0, none⟩)] w1 fun e w' => e = .returned (.bool (agV h f u now x)) ∧ Below w1.heap.size w1 w' from fun x w1 hb => efit_any x.f x.h x.u h f u now b1 b2 w1 t1 t2 (hc1.step hb) (hc2.step hb))
  clear hc1 hc2 t1 t2
  have heg := heg25
  go_enter Try.func16, Try.ntmps16
  go_wp2_with fail
  go_loopw [5, 10] (fun n i wr => ∃ k : Nat, k ≤ L.length ∧ i = .int .i64 k ∧ n = .int .i64 (cntN (agV h f u now) L k) ∧ Hid (Below w.heap.size w wr)) (fun _ i _ => L.length - (intOf i).toNat)
  case atStart => exact ⟨0, by omega, rfl, rfl, Below.refl _ _⟩
  case round =>
    obtain ⟨k, hk, rfl, rfl, HB⟩ := hrel
    have hsz := HB.out.size
    by_cases hlt : k < L.length
    · obtain ⟨a2, cap2, hva, -, hcs⟩ := HL.out.step HB.out
      obtain ⟨rfl, rfl⟩ : a = a2 ∧ cap = cap2 := by simpa using hva
      obtain ⟨b, off, rfl, hcs2⟩ := hcs (by intro h; rw [h] at hlt; simp at hlt)
      obtain ⟨x0, x1, x2⟩ := hcs2 k _ (vo_get hlt)
      have HY := Lib.hid (cntN_le (agV h f u now) L k)
      have HY2 := HY.out
      clear hcs hva hcs2
      have HB1 := Lib.hid (HB.out.alloc hsz (.cells #[.int .i64 (L.getD k zV).f, .int .i64 (L.getD k zV).h, .int .i64 (L.getD k zV).u] 64))
      cases hA : agV h f u now (L.getD k zV)
      · have HT := Lib.hid (cntN_no hA)
        have HA := Lib.hid hA
        clear hA
        generalize L.getD k zV = x at *
        generalize cntN (agV h f u now) L k = c at *
        go_wp2_with fail
        refine (HC.out x _ HB1.out).mono ?_
        rintro e w2 ⟨rfl, bb⟩
        rw [HA.out]
        have HB2 := Lib.hid (keep2 bb HB1.out)
        clear bb x0 x1 x2
        go_wp2
        go_roundw
        case rel => exact ⟨k + 1, by omega, by go_num, by rw [HT.out], HB2⟩
        case measure => simp [intOf]; omega
      · have HT := Lib.hid (cntN_yes hA)
        have HA := Lib.hid hA
        clear hA
        generalize L.getD k zV = x at *
        generalize cntN (agV h f u now) L k = c at *
        go_wp2_with fail
        refine (HC.out x _ HB1.out).mono ?_
        rintro e w2 ⟨rfl, bb⟩
        rw [HA.out]
        have HB2 := Lib.hid (keep2 bb HB1.out)
        clear bb x0 x1 x2
        go_wp2
        go_roundw
        case rel => exact ⟨k + 1, by omega, by go_num, by rw [HT.out]; go_num, HB2⟩
        case measure => simp [intOf]; omega
    · obtain rfl : k = L.length := by omega
      go_wp2
      go_ret
      exact ⟨rfl, HB.out⟩

/-- 'copy' of structs of three cells into a row of the call's own. -/
theorem run_copy3 {P : Program} (w : World) (dT sT ty elem : TypeId) (g dLen dCap : Nat) (a : Addr) (sLen sCap : Nat) (cur : Array Value) (t : TypeId) (cs : List Value)
    (hu : P.underlying dT = some (.slice elem)) (hs : (P.info? elem).map (·.size) = some 3) (hg : w.heap[g]? = some (.cells cur t (0, 0))) (hn : cs.length = Nat.min sLen dLen * 3)
    (hsrc : ∀ j v, cs[j]? = some v → w.cell? (a.add j) = some v) (hfit : cs.length ≤ cur.size) (h1 : ∀ v ∈ cs, v.oneCell' = true) :
    (Builtin.copy_ #[dT, sT] ty #[.slice (some ⟨g, 0, none⟩) dLen dCap, .slice (some a) sLen sCap]).run P w = .ok (goInt (Nat.min sLen dLen)) (w.setRow g (cs ++ cur.toList.drop cs.length).toArray) := by
  have hl := run_loadCells_list (P := P) w a cs hsrc
  have hst := run_storeCells_at P g 0 t cs 0 cur w hg (by simpa using hfit) h1
  rw [hn] at hl
  cases hq : P.info? elem with
  | none => simp [hq] at hs
  | some i =>
    have hi : i.size = 3 := by simpa [hq] using hs
    simp [Builtin.copy_, run_underlying hu, Builtin.lenOf, Builtin.firstCells, sizeOf, typeInfo, hq, hi, hl, hst]
theorem wpList_copy3 {P : Program} {w : World} {ops : Array Oper} {rest : List Oper} {o : Oper} {a : Act} {Q : Exit → Act → World → Prop} (hgd : o.guard = none) (d s : Operand) (dT sT : TypeId)
    (ho : o.op = .call { callee := .builtin .copy, args := #[d, s], argTypes := #[dT, sT] }) (elem : TypeId) (hu : P.underlying dT = some (.slice elem)) (hsz : (P.info? elem).map (·.size) = some 3)
    (g dLen dCap : Nat) (ad : Addr) (sLen sCap : Nat) (hd : a.eval d = .slice (some ⟨g, 0, none⟩) dLen dCap) (hs : a.eval s = .slice (some ad) sLen sCap)
    (cur : Array Value) (t : TypeId) (hg : w.heap[g]? = some (.cells cur t (0, 0))) (cs : List Value) (hn : cs.length = Nat.min sLen dLen * 3)
    (hsrc : ∀ j v, cs[j]? = some v → w.cell? (ad.add j) = some v) (hfit : cs.length ≤ cur.size) (h1 : ∀ v ∈ cs, v.oneCell' = true) (B : Nat) (w0 : World) (hb : Below B w0 w) (hBg : B ≤ g)
    (h : ∀ w', Hid (w'.heap[g]? = some (.cells (cs ++ cur.toList.drop cs.length).toArray t (0, 0))) → Hid (Below B w0 w') → wpList P ops Q rest (a.put o.dst (goInt (Nat.min sLen dLen))) w') : wpList P ops Q (o :: rest) a w := by
  refine wpList_plain hgd fun K hK => ?_
  have hrun := run_copy3 (P := P) w dT sT o.type elem g dLen dCap ad sLen sCap cur t cs hu hsz hg hn hsrc hfit h1
  unfold Oper.wp
  simp [execOp, ho, resolve, invoke, builtin, hd, hs, hrun, Result.andThen]
  exact hK _ _ (h _ (Lib.hid (setRow_heap w g cur _ t _ hg)) (Lib.hid (below_setRow hb hBg _)))
theorem vcs_at {w : World} {b off : Nat} {L : List Vo} (h : ∀ (i : Nat) (x : Vo), L[i]? = some x →
    w.cell? ⟨b, off + i * 3, none⟩ = some (.int .i64 x.f) ∧ w.cell? ⟨b, off + i * 3 + 1, none⟩ = some (.int .i64 x.h) ∧ w.cell? ⟨b, off + i * 3 + 2, none⟩ = some (.int .i64 x.u)) : ∀ j v, (vcs L)[j]? = some v → w.cell? ((⟨b, off, none⟩ : Addr).add j) = some v := by
  intro j v hj
  rw [Go.WideShapes.add_plain]
  have hlen : (vcs L).length = L.length * 3 := by
    clear h hj
    induction L with
    | nil => rfl
    | cons x l ih => rw [show vcs (x :: l) = x.cells ++ vcs l by simp [vcs], List.length_append, ih]; simp [Vo.cells]; omega
  have hlt : j < L.length * 3 := by rw [← hlen]; exact (List.getElem?_eq_some_iff.1 hj).1
  have hi : j / 3 < L.length := by omega
  have hg := vcs_get L (j / 3) _ (vo_get hi) (j % 3) (by omega)
  rw [show j / 3 * 3 + j % 3 = j by omega] at hg
  rw [hg] at hj
  obtain ⟨y0, y1, y2⟩ := h (j / 3) _ (vo_get hi)
  have hm : j % 3 = 0 ∨ j % 3 = 1 ∨ j % 3 = 2 := by omega
  rcases hm with hm | hm | hm <;> rw [hm] at hj
  · have e : off + j / 3 * 3 = off + j := by omega
    rw [e] at y0; rw [y0]; simpa [Vo.cells] using hj
  · have e : off + j / 3 * 3 + 1 = off + j := by omega
    rw [e] at y1; rw [y1]; simpa [Vo.cells] using hj
  · have e : off + j / 3 * 3 + 2 = off + j := by omega
    rw [e] at y2; rw [y2]; simpa [Vo.cells] using hj
theorem vcs_one' (L : List Vo) : ∀ v ∈ vcs L, v.oneCell' = true := by
  intro v hv
  simp only [vcs, List.mem_flatMap, Vo.cells] at hv
  obtain ⟨x, -, hx⟩ := hv
  simp at hx
  rcases hx with rfl | rfl | rfl <;> rfl
theorem Cs.of_heap {w : World} {g : Nat} {cs : Array Value} {t : TypeId} (h : w.heap[g]? = some (.cells cs t (0, 0))) : Cs w g cs :=
  ⟨fun j _ => by simp [World.cell?, h], fun j _ => by simp [World.frozen?, h], (Array.getElem?_eq_some_iff.1 h).1⟩
theorem VosAt.other {w : World} {g n c b : Nat} {l : List Vo} (h : VosAt w (.slice (some ⟨g, 0, none⟩) n c) l) (hne : g ≠ b) (j : Nat) (v : Value) : VosAt (w.setCell ⟨b, j, none⟩ v) (.slice (some ⟨g, 0, none⟩) n c) l := by
  obtain ⟨a, cap, hv, hm, hc⟩ := h
  refine ⟨a, cap, hv, hm, fun hl => ?_⟩
  obtain ⟨b2, off, ha, hx⟩ := hc hl
  obtain rfl : b2 = g := by
    rw [ha] at hv
    simp only [Value.slice.injEq, Option.some.injEq, Addr.mk.injEq] at hv
    exact hv.1.1.symm
  have hk : ∀ i, (w.setCell ⟨b, j, none⟩ v).cell? ⟨b2, i, none⟩ = w.cell? ⟨b2, i, none⟩ := fun i => World.cell?_of_block (a := ⟨b2, i, none⟩) (Below.heap_setCell w ⟨b, j, none⟩ v b2 hne)
  exact ⟨b2, off, ha, fun i x hi => by rw [hk, hk, hk]; exact hx i x hi⟩
/-- A voter after the vote. -/
def votV (h f u now : Int) (x : Vo) : Vo := if voB x.f x.h x.u h f u now then ⟨f, h, grU x.h x.u h u⟩ else x
theorem evoteV (h f u now : Int) (x : Vo) (w : World) : Calls Try.prog 15 #[.agg #[.int .i64 h, .int .i64 f, .int .i64 u, .int .i64 now], .agg #[.int .i64 x.f, .int .i64 x.h, .int .i64 x.u]] w fun e w' => e = .returned (.agg #[.int .i64 (votV h f u now x).f, .int .i64 (votV h f u now x).h, .int .i64 (votV h f u now x).u]) ∧ Below w.heap.size w w' :=
  (evote_any x.f x.h x.u h f u now w).mono fun e w' hh => ⟨by rw [hh.1]; unfold votedV votV; split <;> rfl, hh.2⟩
def arr9 (x y z : Vo) : Array Value := #[.int .i64 x.f, .int .i64 x.h, .int .i64 x.u, .int .i64 y.f, .int .i64 y.h, .int .i64 y.u, .int .i64 z.f, .int .i64 z.h, .int .i64 z.u]
/-- The k-th voter after those that answer have voted, when the first n have been asked. -/
def elV (L : List Vo) (A : List Bool) (h f u now : Int) (n k : Nat) : Vo := if k < n ∧ A.getD k false = true then votV h f u now (L.getD k zV) else L.getD k zV
def elL (L : List Vo) (A : List Bool) (h f u now : Int) : List Vo := (List.range L.length).map (elV L A h f u now L.length)
theorem elV_ne {L : List Vo} {A : List Bool} {h f u now : Int} {n k : Nat} (hk : k ≠ n) : elV L A h f u now (n + 1) k = elV L A h f u now n k := by
  unfold elV
  by_cases h1 : k < n
  · simp [h1, show k < n + 1 by omega]
  · simp [h1, show ¬ k < n + 1 by omega]
theorem elV_no {L : List Vo} {A : List Bool} {h f u now : Int} {n k : Nat} (hk : A.getD k false = false) : elV L A h f u now n k = L.getD k zV := by
  unfold elV; rw [if_neg (by rw [hk]; simp)]
theorem elV_ge {L : List Vo} {A : List Bool} {h f u now : Int} {n k : Nat} (hk : n ≤ k) : elV L A h f u now n k = L.getD k zV := by
  unfold elV; rw [if_neg (by omega)]
theorem elV_yes {L : List Vo} {A : List Bool} {h f u now : Int} {k : Nat} (hk : A.getD k false = true) : elV L A h f u now (k + 1) k = votV h f u now (L.getD k zV) := by
  unfold elV; rw [if_pos ⟨by omega, hk⟩]
abbrev el9 (L : List Vo) (A : List Bool) (h f u now : Int) (n : Nat) : Array Value := arr9 (elV L A h f u now n 0) (elV L A h f u now n 1) (elV L A h f u now n 2)
theorem vos_el {w : World} {g : Nat} {L : List Vo} {A : List Bool} {h f u now : Int} (hC : Cs w g (el9 L A h f u now L.length)) (h2 : 2 ≤ L.length) (h3 : L.length ≤ 3) : VosAt w (.slice (some ⟨g, 0, none⟩) L.length 3) (elL L A h f u now) := by
  have hlen : (elL L A h f u now).length = L.length := by simp [elL]
  refine ⟨_, 3, by rw [hlen], by rw [hlen]; unfold maxLen; omega, fun _ => ⟨g, 0, rfl, fun i x hi => ?_⟩⟩
  have hlt : i < L.length := by rw [← hlen]; exact (List.getElem?_eq_some_iff.1 hi).1
  have hx : x = elV L A h f u now L.length i := by
    unfold elL at hi
    rw [List.getElem?_map, List.getElem?_range hlt] at hi
    simpa using hi.symm
  subst hx
  obtain rfl | rfl | rfl : i = 0 ∨ i = 1 ∨ i = 2 := by omega
  · exact ⟨hC.c 0 rfl, hC.c 1 rfl, hC.c 2 rfl⟩
  · exact ⟨hC.c 3 rfl, hC.c 4 rfl, hC.c 5 rfl⟩
  · exact ⟨hC.c 6 rfl, hC.c 7 rfl, hC.c 8 rfl⟩
theorem el9_start {L : List Vo} {A : List Bool} {h f u now : Int} (h2 : 2 ≤ L.length) (h3 : L.length ≤ 3) : (vcs L ++ (#[Value.int .i64 0, .int .i64 0, .int .i64 0, .int .i64 0, .int .i64 0, .int .i64 0, .int .i64 0, .int .i64 0, .int .i64 0] : Array Value).toList.drop (vcs L).length).toArray = el9 L A h f u now 0 := by
  unfold el9
  rw [elV_ge (Nat.zero_le _), elV_ge (Nat.zero_le _), elV_ge (Nat.zero_le _)]
  match L, h2, h3 with
  | [x, y], _, _ => rfl
  | [x, y, z], _, _ => rfl
set_option maxRecDepth 100000 in
set_option maxHeartbeats 8000000 in
theorem voted_any (v va : Value) (L : List Vo) (A : List Bool) (h f u now : Int) (w : World) (hl : VosAt w v L) (ha : BosAt w va A) (hn : A.length = L.length) (h2 : 2 ≤ L.length) (h3 : L.length ≤ 3) :
    Calls Try.prog 14 #[v, va, .func (.func 15) #[.agg #[.int .i64 h, .int .i64 f, .int .i64 u, .int .i64 now]] #[]] w fun e w' => e = .returned (.slice (some ⟨w.heap.size, 0, none⟩) L.length 3) ∧ VosAt w' (.slice (some ⟨w.heap.size, 0, none⟩) L.length 3) (elL L A h f u now) ∧ Below w.heap.size w w' := by
  have HA := Lib.hid ha
  obtain ⟨a, cap, rfl, -, hcs⟩ := hl
  obtain ⟨aa, capa, rfl, -, -⟩ := ha
  obtain ⟨b, off, rfl, hct⟩ := hcs (by intro h; rw [h] at h2; simp at h2)
  have HS := Lib.hid (vcs_at (w := w.alloc (.cells #[.int .i64 0, .int .i64 0, .int .i64 0, .int .i64 0, .int .i64 0, .int .i64 0, .int .i64 0, .int .i64 0, .int .i64 0] 82)) (fun i x hx => ⟨keep1 (al _ _) (hct i x hx).1, keep1 (al _ _) (hct i x hx).2.1, keep1 (al _ _) (hct i x hx).2.2⟩))
  have HN := Lib.hid hn
  have HV := Lib.hid (evoteV h f u now)
  have HE0 := Lib.hid (el9_start (A := A) (h := h) (f := f) (u := u) (now := now) h2 h3)
  have HM := Lib.hid (show (vcs L).length = Nat.min L.length 3 * 3 by
    rw [show Nat.min L.length 3 = L.length from Nat.min_eq_left h3]
    match L, h2, h3 with
    | [x, y], _, _ => rfl
    | [x, y, z], _, _ => rfl)
  have HM2 := Lib.hid (show (vcs L).length ≤ 9 by rw [HM.out, show Nat.min L.length 3 = L.length from Nat.min_eq_left h3]; omega)
  clear hn hcs hct
  have heg := heg22
  go_enter Try.func14, Try.ntmps14
  go_wp2_with ((with_reducible refine wpList_copy3 rfl (.tmp 10) (.tmp 11) 24 24 rfl 64 Try.underlying24 (by kernel_rfl) w.heap.size 3 3 ⟨b, off, none⟩ L.length cap rfl rfl _ 82 (heap_alloc_new _ _) (vcs L) HM.out HS.out (by simpa using HM2.out) (vcs_one' L) w.heap.size w (al _ _) (Nat.le_refl _) ?_); intro w1 HG HB0)
  have HC0 : Hid (Cs w1 w.heap.size (el9 L A h f u now 0)) := Lib.hid (by rw [← HE0.out]; exact Cs.of_heap HG.out)
  clear HG
  go_loopw [15] (fun i wr => ∃ k : Nat, k ≤ L.length ∧ i = .int .i64 k ∧ Hid (Cs wr w.heap.size (el9 L A h f u now k)) ∧ Hid (Below w.heap.size w wr)) (fun i _ => A.length - (intOf i).toNat)
  case atStart => exact ⟨0, by omega, rfl, HC0, HB0⟩
  case round =>
    obtain ⟨k, hk, rfl, HC, HB⟩ := hrel
    have hsz := HB.out.size
    have hN := HN.out
    by_cases hlt : k < A.length
    · obtain ⟨a3, cap3, hvb, -, hct⟩ := HA.out.step HB.out
      obtain ⟨rfl, rfl⟩ : aa = a3 ∧ capa = cap3 := by simpa using hvb
      obtain ⟨b2, off2, rfl, hct2⟩ := hct (by intro h; rw [h] at hlt; simp at hlt)
      have y0 := hct2 k _ (bo_get hlt)
      clear hct hvb hct2
      cases hA : A.getD k false
      · have HE := Lib.hid (show el9 L A h f u now (k + 1) = el9 L A h f u now k by
          unfold el9
          have e : ∀ j, elV L A h f u now (k + 1) j = elV L A h f u now k j := fun j => by
            by_cases hj : j = k
            · subst hj; rw [elV_no hA, elV_no hA]
            · exact elV_ne hj
          rw [e, e, e])
        rw [hA] at y0
        clear hA
        clear hN
        go_wp2
        go_roundw
        case rel => exact ⟨k + 1, by have := HN.out; omega, by go_num, by rw [HE.out]; exact HC, HB⟩
        case measure => simp [intOf]; omega
      · rw [hA] at y0
        have hk3 : k < 3 := by omega
        clear hN
        obtain rfl | rfl | rfl : k = 0 ∨ k = 1 ∨ k = 2 := by omega
        · have HE := Lib.hid (show el9 L A h f u now (0 + 1) = arr9 (votV h f u now (elV L A h f u now 0 0)) (elV L A h f u now 0 1) (elV L A h f u now 0 2) by
            unfold el9; rw [elV_yes hA, elV_ne (k := 1) (n := 0) (by omega), elV_ne (k := 2) (n := 0) (by omega), elV_ge (n := 0) (k := 0) (Nat.le_refl _)])
          clear hA
          obtain ⟨p0, p1, p2, hp0, hp1, hp2⟩ : ∃ p0 p1 p2 : Vo, elV L A h f u now 0 0 = p0 ∧ elV L A h f u now 0 1 = p1 ∧ elV L A h f u now 0 2 = p2 := ⟨_, _, _, rfl, rfl, rfl⟩
          unfold el9 at HC
          rw [hp0, hp1, hp2] at HC HE
          clear hp0 hp1 hp2
          have x0 := HC.out.c 0 rfl
          have x1 := HC.out.c 1 rfl
          have x2 := HC.out.c 2 rfl
          rw [Nat.add_zero] at y0
          rw [show ((0 : Nat) : Int) = 0 from rfl]
          go_wp2_with fail
          refine (HV.out p0 _).mono ?_
          rintro e w2 ⟨rfl, bb⟩
          have HC1 := Lib.hid (HC.out.step bb)
          have HB1 := Lib.hid (keep2 bb HB.out)
          clear bb x0 x1 x2 y0
          have x0 := HC1.out.c 0 rfl
          have x1 := HC1.out.c 1 rfl
          have x2 := HC1.out.c 2 rfl
          have z0 := HC1.out.f 0 (by simp [arr9])
          have z1 := HC1.out.f 1 (by simp [arr9])
          have z2 := HC1.out.f 2 (by simp [arr9])
          generalize hq : votV h f u now p0 = q at *
          have HC2 := Lib.hid (((HC1.out.set 0 (by simp [arr9]) (.int .i64 q.f) rfl).set 1 (by simp [arr9]) (.int .i64 q.h) rfl).set 2 (by simp [arr9]) (.int .i64 q.u) (vs' := arr9 q p1 p2) rfl)
          clear hq
          go_wp2
          go_roundw
          case rel => exact ⟨0 + 1, by have := HN.out; omega, by go_num, by rw [HE.out]; exact HC2, Lib.hid (by repeat (first | with_reducible exact HB1.out | with_reducible exact Below.refl _ _ | ((with_reducible refine Below.setCell ?_ ?_ _); rotate_left; focus (first | (simp; done) | (simp; omega) | omega)) | ((with_reducible refine Below.alloc ?_ ?_ _); rotate_left; focus (first | (simp; done) | (simp; omega) | omega)) | with_reducible refine Below.trans ?_ (below_drewN' _ _ _) | with_reducible refine Below.trans ?_ (below_drew _ _)))⟩
          case measure => simp [intOf]; omega
        · have HE := Lib.hid (show el9 L A h f u now (1 + 1) = arr9 (elV L A h f u now 1 0) (votV h f u now (elV L A h f u now 1 1)) (elV L A h f u now 1 2) by
            unfold el9; rw [elV_ne (k := 0) (n := 1) (by omega), elV_yes hA, elV_ne (k := 2) (n := 1) (by omega), elV_ge (n := 1) (k := 1) (Nat.le_refl _)])
          clear hA
          obtain ⟨p0, p1, p2, hp0, hp1, hp2⟩ : ∃ p0 p1 p2 : Vo, elV L A h f u now 1 0 = p0 ∧ elV L A h f u now 1 1 = p1 ∧ elV L A h f u now 1 2 = p2 := ⟨_, _, _, rfl, rfl, rfl⟩
          unfold el9 at HC
          rw [hp0, hp1, hp2] at HC HE
          clear hp0 hp1 hp2
          have x0 := HC.out.c 3 rfl
          have x1 := HC.out.c 4 rfl
          have x2 := HC.out.c 5 rfl
          go_wp2_with fail
          refine (HV.out p1 _).mono ?_
          rintro e w2 ⟨rfl, bb⟩
          have HC1 := Lib.hid (HC.out.step bb)
          have HB1 := Lib.hid (keep2 bb HB.out)
          clear bb x0 x1 x2 y0
          have x0 := HC1.out.c 3 rfl
          have x1 := HC1.out.c 4 rfl
          have x2 := HC1.out.c 5 rfl
          have z0 := HC1.out.f 3 (by simp [arr9])
          have z1 := HC1.out.f 4 (by simp [arr9])
          have z2 := HC1.out.f 5 (by simp [arr9])
          generalize hq : votV h f u now p1 = q at *
          have HC2 := Lib.hid (((HC1.out.set 3 (by simp [arr9]) (.int .i64 q.f) rfl).set 4 (by simp [arr9]) (.int .i64 q.h) rfl).set 5 (by simp [arr9]) (.int .i64 q.u) (vs' := arr9 p0 q p2) rfl)
          clear hq
          go_wp2
          go_roundw
          case rel => exact ⟨1 + 1, by have := HN.out; omega, by go_num, by rw [HE.out]; exact HC2, Lib.hid (by repeat (first | with_reducible exact HB1.out | with_reducible exact Below.refl _ _ | ((with_reducible refine Below.setCell ?_ ?_ _); rotate_left; focus (first | (simp; done) | (simp; omega) | omega)) | ((with_reducible refine Below.alloc ?_ ?_ _); rotate_left; focus (first | (simp; done) | (simp; omega) | omega)) | with_reducible refine Below.trans ?_ (below_drewN' _ _ _) | with_reducible refine Below.trans ?_ (below_drew _ _)))⟩
          case measure => simp [intOf]; omega
        · have HE := Lib.hid (show el9 L A h f u now (2 + 1) = arr9 (elV L A h f u now 2 0) (elV L A h f u now 2 1) (votV h f u now (elV L A h f u now 2 2)) by
            unfold el9; rw [elV_ne (k := 0) (n := 2) (by omega), elV_ne (k := 1) (n := 2) (by omega), elV_yes hA, elV_ge (n := 2) (k := 2) (Nat.le_refl _)])
          clear hA
          obtain ⟨p0, p1, p2, hp0, hp1, hp2⟩ : ∃ p0 p1 p2 : Vo, elV L A h f u now 2 0 = p0 ∧ elV L A h f u now 2 1 = p1 ∧ elV L A h f u now 2 2 = p2 := ⟨_, _, _, rfl, rfl, rfl⟩
          unfold el9 at HC
          rw [hp0, hp1, hp2] at HC HE
          clear hp0 hp1 hp2
          have x0 := HC.out.c 6 rfl
          have x1 := HC.out.c 7 rfl
          have x2 := HC.out.c 8 rfl
          go_wp2_with fail
          refine (HV.out p2 _).mono ?_
          rintro e w2 ⟨rfl, bb⟩
          have HC1 := Lib.hid (HC.out.step bb)
          have HB1 := Lib.hid (keep2 bb HB.out)
          clear bb x0 x1 x2 y0
          have x0 := HC1.out.c 6 rfl
          have x1 := HC1.out.c 7 rfl
          have x2 := HC1.out.c 8 rfl
          have z0 := HC1.out.f 6 (by simp [arr9])
          have z1 := HC1.out.f 7 (by simp [arr9])
          have z2 := HC1.out.f 8 (by simp [arr9])
          generalize hq : votV h f u now p2 = q at *
          have HC2 := Lib.hid (((HC1.out.set 6 (by simp [arr9]) (.int .i64 q.f) rfl).set 7 (by simp [arr9]) (.int .i64 q.h) rfl).set 8 (by simp [arr9]) (.int .i64 q.u) (vs' := arr9 p0 p1 q) rfl)
          clear hq
          go_wp2
          go_roundw
          case rel => exact ⟨2 + 1, by have := HN.out; omega, by go_num, by rw [HE.out]; exact HC2, Lib.hid (by repeat (first | with_reducible exact HB1.out | with_reducible exact Below.refl _ _ | ((with_reducible refine Below.setCell ?_ ?_ _); rotate_left; focus (first | (simp; done) | (simp; omega) | omega)) | ((with_reducible refine Below.alloc ?_ ?_ _); rotate_left; focus (first | (simp; done) | (simp; omega) | omega)) | with_reducible refine Below.trans ?_ (below_drewN' _ _ _) | with_reducible refine Below.trans ?_ (below_drew _ _)))⟩
          case measure => simp [intOf]; omega
    · obtain rfl : k = L.length := by omega
      clear hN
      have HQ := Lib.hid (vos_el HC.out h2 h3)
      have e23 : L.length = 2 ∨ L.length = 3 := by omega
      rcases e23 with e | e
      all_goals
        rw [e] at HQ hlt ⊢
        have HQ2 := Lib.hid HQ.out
        have HE := Lib.hid e
        clear e HQ
        clear h2 h3 hk
        go_wp2
        go_ret
        exact ⟨congrArg (fun n : Nat => Ending.returned (.slice (some ⟨w.heap.size, 0, none⟩) n 3)) HE.out.symm, by rw [HE.out]; exact HQ2.out, HB.out⟩
open Go.RowKit

/-- The greatest Fence: of the first one and the first k. -/
def gN (l : List Vo) : Nat → Int
  | 0 => (l.getD 0 zV).f
  | k + 1 => mxi (gN l k) (l.getD k zV).f
def argB (n m hub now len : Int) : Bool := inr n 2 3 && (m == n) && inr hub 0 (n - 1) && tmB now && inr len 1 1000000
/-- The ways of 'Propose'. -/
inductive PW (L : List Vo) (A : List Bool) (hub now len : Int) : Int → Int → Int → Int → Prop
  | arg : argB L.length A.length hub now len = false → PW L A hub now len 0 0 0 1
  | few : argB L.length A.length hub now len = true → ¬ L.length < 2 * (yesN L A L.length).length → PW L A hub now len 0 0 0 22
  | lim : argB L.length A.length hub now len = true → L.length < 2 * (yesN L A L.length).length → 1000000000 ≤ gN (yesN L A L.length) (yesN L A L.length).length → PW L A hub now len 0 0 0 2
  | ok (F : Int) : argB L.length A.length hub now len = true → L.length < 2 * (yesN L A L.length).length → ¬ 1000000000 ≤ gN (yesN L A L.length) (yesN L A L.length).length → IntKind.i64.wrap (gN (yesN L A L.length) (yesN L A L.length).length + 1) = F → PW L A hub now len hub F (now + len) 0
theorem pw_total (L : List Vo) (A : List Bool) (hub now len : Int) : ∃ h f u er, PW L A hub now len h f u er := by
  cases h1 : argB L.length A.length hub now len
  · exact ⟨_, _, _, _, .arg h1⟩
  · by_cases h2 : L.length < 2 * (yesN L A L.length).length
    · by_cases h3 : 1000000000 ≤ gN (yesN L A L.length) (yesN L A L.length).length
      · exact ⟨_, _, _, _, .lim h1 h2 h3⟩
      · exact ⟨_, _, _, _, .ok _ h1 h2 h3 rfl⟩
    · exact ⟨_, _, _, _, .few h1 h2⟩
/-- How the arguments are wrong. -/
theorem arg_cases {n m hub now len : Int} (h : argB n m hub now len = false) :
    inr n 2 3 = false ∨ (inr n 2 3 = true ∧ m ≠ n) ∨ (inr n 2 3 = true ∧ m = n ∧ inr hub 0 (n - 1) = false) ∨ (inr n 2 3 = true ∧ m = n ∧ inr hub 0 (n - 1) = true ∧ tmB now = false) ∨ (inr n 2 3 = true ∧ m = n ∧ inr hub 0 (n - 1) = true ∧ tmB now = true ∧ inr len 1 1000000 = false) := by
  unfold argB at h
  cases h0 : inr n 2 3
  · exact .inl rfl
  · by_cases h1 : m = n
    · cases h2 : inr hub 0 (n - 1)
      · exact .inr (.inr (.inl ⟨rfl, h1, rfl⟩))
      · cases h3 : tmB now
        · exact .inr (.inr (.inr (.inl ⟨rfl, h1, rfl, rfl⟩)))
        · refine .inr (.inr (.inr (.inr ⟨rfl, h1, rfl, rfl, ?_⟩)))
          rw [h0, h2, h3] at h
          simpa [h1] using h
    · exact .inr (.inl ⟨rfl, h1⟩)
theorem arg_all {n m hub now len : Int} (h : argB n m hub now len = true) : inr n 2 3 = true ∧ m = n ∧ inr hub 0 (n - 1) = true ∧ tmB now = true ∧ inr len 1 1000000 = true := by
  unfold argB at h
  simp only [Bool.and_eq_true, beq_iff_eq] at h
  exact ⟨h.1.1.1.1, h.1.1.1.2, h.1.1.2, h.1.2, h.2⟩
def LPost (h f u er : Int) (w : World) (e : Ending) (w' : World) : Prop := e = .returned (.tuple #[.agg #[.int .i64 h, .int .i64 f, .int .i64 u], .int .i64 er]) ∧ Below w.heap.size w w'
theorem LPost.mk {h f u er : Int} {w w' : World} (hb : Below w.heap.size w w') : LPost h f u er w (.returned (.tuple #[.agg #[.int .i64 h, .int .i64 f, .int .i64 u], .int .i64 er])) w' := ⟨rfl, hb⟩
theorem isTime_q (n : Int) (b : Bool) (hb : tmB n = b) (w : World) : Calls Try.prog 23 #[.int .i64 n] w fun e w' => e = .returned (.bool b) ∧ w = w' := by
  rw [← hb]; exact isTime_any n w
set_option maxRecDepth 100000 in
set_option maxHeartbeats 4000000 in
theorem propose_arg (v va : Value) (L : List Vo) (A : List Bool) (hub now len : Int) (w : World) (hl : VosAt w v L) (ha : BosAt w va A) (h : argB L.length A.length hub now len = false) :
    Calls Try.prog 13 #[v, va, .int .i64 hub, .int .i64 now, .int .i64 len] w (LPost 0 0 0 1 w) := by
  obtain ⟨a, cap, rfl, hm, -⟩ := hl
  obtain ⟨aa, capa, rfl, hma, -⟩ := ha
  unfold maxLen at hm hma
  rcases arg_cases h with h0 | ⟨h0, h1⟩ | ⟨h0, h1, h2⟩ | ⟨h0, h1, h2, h3⟩ | ⟨h0, h1, h2, h3, h4⟩ <;> clear h
  · have H0 := Lib.hid h0
    clear h0
    go_enter Try.func13, Try.ntmps13
    go_wp2_with fail
    refine (within_q _ 2 3 _ H0.out _).mono ?_
    rintro e w' ⟨rfl, rfl⟩
    go_wp2
    exact bodyPost_ret (v := .tuple #[.agg #[.int .i64 0, .int .i64 0, .int .i64 0], .int .i64 1]) (by simp [results, Try.results13, go_sem]) rfl (LPost.mk (by repeat (first | with_reducible exact Below.refl _ _ | with_reducible exact Below.refl _ _ | ((with_reducible refine Below.setCell ?_ ?_ _); rotate_left; focus (first | (simp; done) | (simp; omega) | omega)) | ((with_reducible refine Below.alloc ?_ ?_ _); rotate_left; focus (first | (simp; done) | (simp; omega) | omega)) | with_reducible refine Below.trans ?_ (below_drewN' _ _ _) | with_reducible refine Below.trans ?_ (below_drew _ _))))
  · have H0 := Lib.hid h0
    clear h0
    have q1 : (A.length != L.length) = true := by simpa using (fun e => h1 (by rw [e]))
    have q2 : ((A.length : Int) != (L.length : Int)) = true := by simpa using h1
    clear h1
    go_enter Try.func13, Try.ntmps13
    go_wp2_with fail
    refine (within_q _ 2 3 _ H0.out _).mono ?_
    rintro e w' ⟨rfl, rfl⟩
    go_wp2
    exact bodyPost_ret (v := .tuple #[.agg #[.int .i64 0, .int .i64 0, .int .i64 0], .int .i64 1]) (by simp [results, Try.results13, go_sem]) rfl (LPost.mk (by repeat (first | with_reducible exact Below.refl _ _ | with_reducible exact Below.refl _ _ | ((with_reducible refine Below.setCell ?_ ?_ _); rotate_left; focus (first | (simp; done) | (simp; omega) | omega)) | ((with_reducible refine Below.alloc ?_ ?_ _); rotate_left; focus (first | (simp; done) | (simp; omega) | omega)) | with_reducible refine Below.trans ?_ (below_drewN' _ _ _) | with_reducible refine Below.trans ?_ (below_drew _ _))))
  · have H0 := Lib.hid h0
    clear h0
    have H2 := Lib.hid h2
    clear h2
    have h1' : A.length = L.length := by omega
    rw [h1']
    clear h1 h1'
    go_enter Try.func13, Try.ntmps13
    go_wp2_with fail
    refine (within_q _ 2 3 _ H0.out _).mono ?_
    rintro e w' ⟨rfl, rfl⟩
    go_wp2_with fail
    refine (within_q hub 0 _ _ H2.out _).mono ?_
    rintro e w' ⟨rfl, rfl⟩
    go_wp2
    exact bodyPost_ret (v := .tuple #[.agg #[.int .i64 0, .int .i64 0, .int .i64 0], .int .i64 1]) (by simp [results, Try.results13, go_sem]) rfl (LPost.mk (by repeat (first | with_reducible exact Below.refl _ _ | with_reducible exact Below.refl _ _ | ((with_reducible refine Below.setCell ?_ ?_ _); rotate_left; focus (first | (simp; done) | (simp; omega) | omega)) | ((with_reducible refine Below.alloc ?_ ?_ _); rotate_left; focus (first | (simp; done) | (simp; omega) | omega)) | with_reducible refine Below.trans ?_ (below_drewN' _ _ _) | with_reducible refine Below.trans ?_ (below_drew _ _))))
  · have H0 := Lib.hid h0
    clear h0
    have H2 := Lib.hid h2
    clear h2
    have H3 := Lib.hid h3
    clear h3
    have h1' : A.length = L.length := by omega
    rw [h1']
    clear h1 h1'
    go_enter Try.func13, Try.ntmps13
    go_wp2_with fail
    refine (within_q _ 2 3 _ H0.out _).mono ?_
    rintro e w' ⟨rfl, rfl⟩
    go_wp2_with fail
    refine (within_q hub 0 _ _ H2.out _).mono ?_
    rintro e w' ⟨rfl, rfl⟩
    go_wp2_with fail
    refine (isTime_q now _ H3.out _).mono ?_
    rintro e w' ⟨rfl, rfl⟩
    go_wp2
    exact bodyPost_ret (v := .tuple #[.agg #[.int .i64 0, .int .i64 0, .int .i64 0], .int .i64 1]) (by simp [results, Try.results13, go_sem]) rfl (LPost.mk (by repeat (first | with_reducible exact Below.refl _ _ | with_reducible exact Below.refl _ _ | ((with_reducible refine Below.setCell ?_ ?_ _); rotate_left; focus (first | (simp; done) | (simp; omega) | omega)) | ((with_reducible refine Below.alloc ?_ ?_ _); rotate_left; focus (first | (simp; done) | (simp; omega) | omega)) | with_reducible refine Below.trans ?_ (below_drewN' _ _ _) | with_reducible refine Below.trans ?_ (below_drew _ _))))
  · have H0 := Lib.hid h0
    clear h0
    have H2 := Lib.hid h2
    clear h2
    have H3 := Lib.hid h3
    clear h3
    have H4 := Lib.hid h4
    clear h4
    have h1' : A.length = L.length := by omega
    rw [h1']
    clear h1 h1'
    go_enter Try.func13, Try.ntmps13
    go_wp2_with fail
    refine (within_q _ 2 3 _ H0.out _).mono ?_
    rintro e w' ⟨rfl, rfl⟩
    go_wp2_with fail
    refine (within_q hub 0 _ _ H2.out _).mono ?_
    rintro e w' ⟨rfl, rfl⟩
    go_wp2_with fail
    refine (isTime_q now _ H3.out _).mono ?_
    rintro e w' ⟨rfl, rfl⟩
    go_wp2_with fail
    refine (within_q len 1 1000000 _ H4.out _).mono ?_
    rintro e w' ⟨rfl, rfl⟩
    go_wp2
    exact bodyPost_ret (v := .tuple #[.agg #[.int .i64 0, .int .i64 0, .int .i64 0], .int .i64 1]) (by simp [results, Try.results13, go_sem]) rfl (LPost.mk (by repeat (first | with_reducible exact Below.refl _ _ | with_reducible exact Below.refl _ _ | ((with_reducible refine Below.setCell ?_ ?_ _); rotate_left; focus (first | (simp; done) | (simp; omega) | omega)) | ((with_reducible refine Below.alloc ?_ ?_ _); rotate_left; focus (first | (simp; done) | (simp; omega) | omega)) | with_reducible refine Below.trans ?_ (below_drewN' _ _ _) | with_reducible refine Below.trans ?_ (below_drew _ _))))
open Go.RowKit

theorem isMajority_q (n m : Nat) (b : Bool) (hb : decide (m < 2 * n) = b) (h2 : n ≤ 1000000000) (w : World) : Calls Try.prog 20 #[.int .i64 (n : Int), .int .i64 (m : Int)] w fun e w' => e = .returned (.bool b) ∧ w = w' := by
  have h := isMajority_any (n : Int) (m : Int) w (by omega) (by omega)
  rw [show decide ((m : Int) < 2 * (n : Int)) = b by rw [← hb]; exact decide_eq_decide.2 (by omega)] at h
  exact h
set_option maxRecDepth 100000 in
set_option maxHeartbeats 4000000 in
theorem propose_few (v va : Value) (L : List Vo) (A : List Bool) (hub now len : Int) (w : World) (hl : VosAt w v L) (ha : BosAt w va A) (h : argB L.length A.length hub now len = true) (hM : ¬ L.length < 2 * (yesN L A L.length).length) :
    Calls Try.prog 13 #[v, va, .int .i64 hub, .int .i64 now, .int .i64 len] w (LPost 0 0 0 22 w) := by
  have hla := Lib.hid hl
  have haa := Lib.hid ha
  obtain ⟨a, cap, rfl, hm, -⟩ := hl
  obtain ⟨aa, capa, rfl, hma, -⟩ := ha
  unfold maxLen at hm hma
  obtain ⟨h0, h1, h2, h3, h4⟩ := arg_all h
  have HN := Lib.hid (show A.length = L.length by omega)
  have h9 : L.length ≤ 3 := by have := (inr_iff.1 h0).2; omega
  have t := tm_of h3
  obtain ⟨t1, t2⟩ := t
  have l12 := inr_iff.1 h4
  obtain ⟨l1, l2⟩ := l12
  have H0 := Lib.hid h0
  have H2 := Lib.hid h2
  have H3 := Lib.hid h3
  have H4 := Lib.hid h4
  clear h h0 h1 h2 h3 h4
  have HC := Lib.hid (answering_any _ _ L A (w.alloc (.cells #[.int .i64 0, .int .i64 0, .int .i64 0] 37)) (hla.out.step (al _ _)) (haa.out.step (al _ _)) HN.out (by omega))
  have HR := Lib.hid (Cs.new w w.heap.size #[.int .i64 0, .int .i64 0, .int .i64 0] 37 rfl)
  have HM := Lib.hid (show decide (L.length < 2 * (yesN L A L.length).length) = false by simpa using hM)
  have HY9 := Lib.hid (show (yesN L A L.length).length ≤ 1000000000 by have := yesN_len L A L.length; omega)
  clear hM
  have HLL := HN.out
  rw [HLL] at HC ⊢
  clear HLL
  go_enter Try.func13, Try.ntmps13
  go_wp2_with fail
  refine (within_q _ 2 3 _ H0.out _).mono ?_
  rintro e w' ⟨rfl, rfl⟩
  go_wp2_with fail
  refine (within_q hub 0 _ _ H2.out _).mono ?_
  rintro e w' ⟨rfl, rfl⟩
  go_wp2_with fail
  refine (isTime_q now _ H3.out _).mono ?_
  rintro e w' ⟨rfl, rfl⟩
  go_wp2_with fail
  refine (within_q len 1 1000000 _ H4.out _).mono ?_
  rintro e w' ⟨rfl, rfl⟩
  go_wp2_with fail
  refine HC.out.mono ?_
  rintro e w1 ⟨u, rfl, hu, b1⟩
  have HU := Lib.hid hu
  obtain ⟨au, cu, rfl, hmu, -⟩ := hu
  unfold maxLen at hmu
  have HR1 := Lib.hid (HR.out.step b1)
  have HB1 := Lib.hid (keep2 b1 (al _ _))
  have hz := HR1.out.2.2
  clear b1
  have x0 := HR1.out.c 0 rfl
  have x1 := HR1.out.c 1 rfl
  have x2 := HR1.out.c 2 rfl
  have z0 := HR1.out.f 0 (by simp)
  have z1 := HR1.out.f 1 (by simp)
  have z2 := HR1.out.f 2 (by simp)
  go_wp2_with fail
  refine (isMajority_q _ _ _ HM.out HY9.out _).mono ?_
  rintro e w' ⟨rfl, rfl⟩
  go_wp2
  exact bodyPost_ret (v := .tuple #[.agg #[.int .i64 0, .int .i64 0, .int .i64 0], .int .i64 22]) (by simp [results, Try.results13, go_sem, x0, x1, x2]) rfl (LPost.mk (by repeat (first | with_reducible exact HB1.out | with_reducible exact Below.refl _ _ | ((with_reducible refine Below.setCell ?_ ?_ _); rotate_left; focus (first | (simp; done) | (simp; omega) | omega)) | ((with_reducible refine Below.alloc ?_ ?_ _); rotate_left; focus (first | (simp; done) | (simp; omega) | omega)) | with_reducible refine Below.trans ?_ (below_drewN' _ _ _) | with_reducible refine Below.trans ?_ (below_drew _ _))))
set_option maxRecDepth 100000 in
set_option maxHeartbeats 8000000 in
theorem propose_lim (v va : Value) (L : List Vo) (A : List Bool) (hub now len : Int) (w : World) (hl : VosAt w v L) (ha : BosAt w va A) (h : argB L.length A.length hub now len = true) (hM : L.length < 2 * (yesN L A L.length).length) (hG : 1000000000 ≤ gN (yesN L A L.length) (yesN L A L.length).length) :
    Calls Try.prog 13 #[v, va, .int .i64 hub, .int .i64 now, .int .i64 len] w (LPost 0 0 0 2 w) := by
  have hla := Lib.hid hl
  have haa := Lib.hid ha
  obtain ⟨a, cap, rfl, hm, -⟩ := hl
  obtain ⟨aa, capa, rfl, hma, -⟩ := ha
  unfold maxLen at hm hma
  obtain ⟨h0, h1, h2, h3, h4⟩ := arg_all h
  have HN := Lib.hid (show A.length = L.length by omega)
  have h9 : L.length ≤ 3 := by have := (inr_iff.1 h0).2; omega
  have t := tm_of h3
  obtain ⟨t1, t2⟩ := t
  have l12 := inr_iff.1 h4
  obtain ⟨l1, l2⟩ := l12
  have H0 := Lib.hid h0
  have H2 := Lib.hid h2
  have H3 := Lib.hid h3
  have H4 := Lib.hid h4
  clear h h0 h1 h2 h3 h4
  have HC := Lib.hid (answering_any _ _ L A (w.alloc (.cells #[.int .i64 0, .int .i64 0, .int .i64 0] 37)) (hla.out.step (al _ _)) (haa.out.step (al _ _)) HN.out (by omega))
  have HR := Lib.hid (Cs.new w w.heap.size #[.int .i64 0, .int .i64 0, .int .i64 0] 37 rfl)
  have HM := Lib.hid (show decide (L.length < 2 * (yesN L A L.length).length) = true by simpa using hM)
  have HY9 := Lib.hid (show (yesN L A L.length).length ≤ 1000000000 by have := yesN_len L A L.length; omega)
  have hYp : 0 < (yesN L A L.length).length := by omega
  have HG := Lib.hid hG
  clear hG hM
  have HLL := HN.out
  rw [HLL] at HC ⊢
  clear HLL
  go_enter Try.func13, Try.ntmps13
  go_wp2_with fail
  refine (within_q _ 2 3 _ H0.out _).mono ?_
  rintro e w' ⟨rfl, rfl⟩
  go_wp2_with fail
  refine (within_q hub 0 _ _ H2.out _).mono ?_
  rintro e w' ⟨rfl, rfl⟩
  go_wp2_with fail
  refine (isTime_q now _ H3.out _).mono ?_
  rintro e w' ⟨rfl, rfl⟩
  go_wp2_with fail
  refine (within_q len 1 1000000 _ H4.out _).mono ?_
  rintro e w' ⟨rfl, rfl⟩
  go_wp2_with fail
  refine HC.out.mono ?_
  rintro e w1 ⟨u, rfl, hu, b1⟩
  have HU := Lib.hid hu
  obtain ⟨au, cu, rfl, hmu, -⟩ := hu
  unfold maxLen at hmu
  have HR1 := Lib.hid (HR.out.step b1)
  have HB1 := Lib.hid (keep2 b1 (al _ _))
  have hz := HR1.out.2.2
  clear b1
  have x0 := HR1.out.c 0 rfl
  have x1 := HR1.out.c 1 rfl
  have x2 := HR1.out.c 2 rfl
  have z0 := HR1.out.f 0 (by simp)
  have z1 := HR1.out.f 1 (by simp)
  have z2 := HR1.out.f 2 (by simp)
  go_wp2_with fail
  refine (isMajority_q _ _ _ HM.out HY9.out _).mono ?_
  rintro e w' ⟨rfl, rfl⟩
  clear HM
  clear x0 x1 x2 z0 z1 z2
  generalize yesN L A L.length = Y at *
  obtain ⟨b, off, rfl, hcs⟩ : ∃ b off, au = some ⟨b, off, none⟩ ∧ ∀ (i : Nat) (x : Vo), Y[i]? = some x →
    w1.cell? ⟨b, off + i * 3, none⟩ = some (.int .i64 x.f) ∧ w1.cell? ⟨b, off + i * 3 + 1, none⟩ = some (.int .i64 x.h) ∧ w1.cell? ⟨b, off + i * 3 + 2, none⟩ = some (.int .i64 x.u) := by
    obtain ⟨a2, c2, hv2, -, hc2⟩ := HU.out
    obtain ⟨rfl, rfl⟩ : au = a2 ∧ cu = c2 := by simpa using hv2
    exact hc2 (by intro h; rw [h] at hYp; simp at hYp)
  have HCS := Lib.hid hcs
  obtain ⟨y0, -, -⟩ := hcs 0 _ (vo_get hYp)
  rw [Nat.zero_mul, Nat.add_zero] at y0
  clear hcs
  have HY0 := Lib.hid (show (Y.getD 0 zV).f = gN Y 0 from rfl)
  generalize (Y.getD 0 zV).f = y at *
  go_wp2_with fail
  go_loopw [13, 62] (fun g i wr => ∃ k : Nat, k ≤ Y.length ∧ i = .int .i64 k ∧ g = .int .i64 (gN Y k) ∧ Hid (Below w1.heap.size w1 wr)) (fun _ i _ => Y.length - (intOf i).toNat)
  case atStart => exact ⟨0, by omega, rfl, by rw [HY0.out], Below.refl _ _⟩
  case round =>
    clear y0
    obtain ⟨k, hk, rfl, rfl, HB⟩ := hrel
    have hsz := HB.out.size
    by_cases hlt : k < Y.length
    · obtain ⟨x0, x1, x2⟩ := HCS.out k _ (vo_get hlt)
      have x0 := keep1 HB.out x0
      have x1 := keep1 HB.out x1
      have x2 := keep1 HB.out x2
      have HT := Lib.hid (show gN Y (k + 1) = mxi (gN Y k) (Y.getD k zV).f from rfl)
      have HB1 := Lib.hid (HB.out.alloc hsz (.cells #[.int .i64 (Y.getD k zV).f, .int .i64 (Y.getD k zV).h, .int .i64 (Y.getD k zV).u] 64))
      generalize Y.getD k zV = x at *
      obtain ⟨g, hg⟩ : ∃ g, gN Y k = g := ⟨_, rfl⟩
      rw [hg] at HT ⊢
      clear hg
      by_cases hx : g < x.f
      · have HV := Lib.hid (show gN Y (k + 1) = x.f by rw [HT.out]; unfold mxi; rw [if_pos hx])
        go_wp2
        go_roundw
        case rel => exact ⟨k + 1, by omega, by go_num, by rw [HV.out], HB1⟩
        case measure => simp [intOf]; omega
      · have HV := Lib.hid (show gN Y (k + 1) = g by rw [HT.out]; unfold mxi; rw [if_neg hx])
        go_wp2
        go_roundw
        case rel => exact ⟨k + 1, by omega, by go_num, by rw [HV.out], HB1⟩
        case measure => simp [intOf]; omega
    · obtain rfl : k = Y.length := by omega
      have HR2 := Lib.hid (HR1.out.step HB.out)
      have HB2 := Lib.hid (keep2 HB.out HB1.out)
      have hz2 := HR2.out.2.2
      clear HB HB1
      have x0 := HR2.out.c 0 rfl
      have x1 := HR2.out.c 1 rfl
      have x2 := HR2.out.c 2 rfl
      have z0 := HR2.out.f 0 (by simp)
      have z1 := HR2.out.f 1 (by simp)
      have z2 := HR2.out.f 2 (by simp)
      have hG := HG.out
      obtain ⟨g, hg⟩ : ∃ g, gN Y Y.length = g := ⟨_, rfl⟩
      rw [hg] at hG ⊢
      clear hg HG HU
      go_wp2
      exact bodyPost_ret (v := .tuple #[.agg #[.int .i64 0, .int .i64 0, .int .i64 0], .int .i64 2]) (by simp [results, Try.results13, go_sem, x0, x1, x2]) rfl (LPost.mk (by repeat (first | with_reducible exact HB2.out | with_reducible exact Below.refl _ _ | ((with_reducible refine Below.setCell ?_ ?_ _); rotate_left; focus (first | (simp; done) | (simp; omega) | omega)) | ((with_reducible refine Below.alloc ?_ ?_ _); rotate_left; focus (first | (simp; done) | (simp; omega) | omega)) | with_reducible refine Below.trans ?_ (below_drewN' _ _ _) | with_reducible refine Below.trans ?_ (below_drew _ _))))
set_option maxRecDepth 100000 in
set_option maxHeartbeats 8000000 in
theorem propose_ok (v va : Value) (L : List Vo) (A : List Bool) (hub now len : Int) (w : World) (hl : VosAt w v L) (ha : BosAt w va A) (h : argB L.length A.length hub now len = true) (hM : L.length < 2 * (yesN L A L.length).length) (hG : ¬ 1000000000 ≤ gN (yesN L A L.length) (yesN L A L.length).length) (F : Int) (hF : IntKind.i64.wrap (gN (yesN L A L.length) (yesN L A L.length).length + 1) = F) :
    Calls Try.prog 13 #[v, va, .int .i64 hub, .int .i64 now, .int .i64 len] w (LPost hub F (now + len) 0 w) := by
  have hla := Lib.hid hl
  have haa := Lib.hid ha
  obtain ⟨a, cap, rfl, hm, -⟩ := hl
  obtain ⟨aa, capa, rfl, hma, -⟩ := ha
  unfold maxLen at hm hma
  obtain ⟨h0, h1, h2, h3, h4⟩ := arg_all h
  have HN := Lib.hid (show A.length = L.length by omega)
  have h9 : L.length ≤ 3 := by have := (inr_iff.1 h0).2; omega
  have t := tm_of h3
  obtain ⟨t1, t2⟩ := t
  have l12 := inr_iff.1 h4
  obtain ⟨l1, l2⟩ := l12
  have H0 := Lib.hid h0
  have H2 := Lib.hid h2
  have H3 := Lib.hid h3
  have H4 := Lib.hid h4
  clear h h0 h1 h2 h3 h4
  have HC := Lib.hid (answering_any _ _ L A (w.alloc (.cells #[.int .i64 0, .int .i64 0, .int .i64 0] 37)) (hla.out.step (al _ _)) (haa.out.step (al _ _)) HN.out (by omega))
  have HR := Lib.hid (Cs.new w w.heap.size #[.int .i64 0, .int .i64 0, .int .i64 0] 37 rfl)
  have HM := Lib.hid (show decide (L.length < 2 * (yesN L A L.length).length) = true by simpa using hM)
  have HY9 := Lib.hid (show (yesN L A L.length).length ≤ 1000000000 by have := yesN_len L A L.length; omega)
  have hYp : 0 < (yesN L A L.length).length := by omega
  have HG := Lib.hid hG
  clear hG hM
  have HF := Lib.hid hF
  clear hF
  have HLL := HN.out
  rw [HLL] at HC ⊢
  clear HLL
  go_enter Try.func13, Try.ntmps13
  go_wp2_with fail
  refine (within_q _ 2 3 _ H0.out _).mono ?_
  rintro e w' ⟨rfl, rfl⟩
  go_wp2_with fail
  refine (within_q hub 0 _ _ H2.out _).mono ?_
  rintro e w' ⟨rfl, rfl⟩
  go_wp2_with fail
  refine (isTime_q now _ H3.out _).mono ?_
  rintro e w' ⟨rfl, rfl⟩
  go_wp2_with fail
  refine (within_q len 1 1000000 _ H4.out _).mono ?_
  rintro e w' ⟨rfl, rfl⟩
  go_wp2_with fail
  refine HC.out.mono ?_
  rintro e w1 ⟨u, rfl, hu, b1⟩
  have HU := Lib.hid hu
  obtain ⟨au, cu, rfl, hmu, -⟩ := hu
  unfold maxLen at hmu
  have HR1 := Lib.hid (HR.out.step b1)
  have HB1 := Lib.hid (keep2 b1 (al _ _))
  have hz := HR1.out.2.2
  clear b1
  have x0 := HR1.out.c 0 rfl
  have x1 := HR1.out.c 1 rfl
  have x2 := HR1.out.c 2 rfl
  have z0 := HR1.out.f 0 (by simp)
  have z1 := HR1.out.f 1 (by simp)
  have z2 := HR1.out.f 2 (by simp)
  go_wp2_with fail
  refine (isMajority_q _ _ _ HM.out HY9.out _).mono ?_
  rintro e w' ⟨rfl, rfl⟩
  clear HM
  clear x0 x1 x2 z0 z1 z2
  generalize yesN L A L.length = Y at *
  obtain ⟨b, off, rfl, hcs⟩ : ∃ b off, au = some ⟨b, off, none⟩ ∧ ∀ (i : Nat) (x : Vo), Y[i]? = some x →
    w1.cell? ⟨b, off + i * 3, none⟩ = some (.int .i64 x.f) ∧ w1.cell? ⟨b, off + i * 3 + 1, none⟩ = some (.int .i64 x.h) ∧ w1.cell? ⟨b, off + i * 3 + 2, none⟩ = some (.int .i64 x.u) := by
    obtain ⟨a2, c2, hv2, -, hc2⟩ := HU.out
    obtain ⟨rfl, rfl⟩ : au = a2 ∧ cu = c2 := by simpa using hv2
    exact hc2 (by intro h; rw [h] at hYp; simp at hYp)
  have HCS := Lib.hid hcs
  obtain ⟨y0, -, -⟩ := hcs 0 _ (vo_get hYp)
  rw [Nat.zero_mul, Nat.add_zero] at y0
  clear hcs
  have HY0 := Lib.hid (show (Y.getD 0 zV).f = gN Y 0 from rfl)
  generalize (Y.getD 0 zV).f = y at *
  go_wp2_with fail
  go_loopw [13, 62] (fun g i wr => ∃ k : Nat, k ≤ Y.length ∧ i = .int .i64 k ∧ g = .int .i64 (gN Y k) ∧ Hid (Below w1.heap.size w1 wr)) (fun _ i _ => Y.length - (intOf i).toNat)
  case atStart => exact ⟨0, by omega, rfl, by rw [HY0.out], Below.refl _ _⟩
  case round =>
    clear y0
    obtain ⟨k, hk, rfl, rfl, HB⟩ := hrel
    have hsz := HB.out.size
    by_cases hlt : k < Y.length
    · obtain ⟨x0, x1, x2⟩ := HCS.out k _ (vo_get hlt)
      have x0 := keep1 HB.out x0
      have x1 := keep1 HB.out x1
      have x2 := keep1 HB.out x2
      have HT := Lib.hid (show gN Y (k + 1) = mxi (gN Y k) (Y.getD k zV).f from rfl)
      have HB1 := Lib.hid (HB.out.alloc hsz (.cells #[.int .i64 (Y.getD k zV).f, .int .i64 (Y.getD k zV).h, .int .i64 (Y.getD k zV).u] 64))
      generalize Y.getD k zV = x at *
      obtain ⟨g, hg⟩ : ∃ g, gN Y k = g := ⟨_, rfl⟩
      rw [hg] at HT ⊢
      clear hg
      by_cases hx : g < x.f
      · have HV := Lib.hid (show gN Y (k + 1) = x.f by rw [HT.out]; unfold mxi; rw [if_pos hx])
        go_wp2
        go_roundw
        case rel => exact ⟨k + 1, by omega, by go_num, by rw [HV.out], HB1⟩
        case measure => simp [intOf]; omega
      · have HV := Lib.hid (show gN Y (k + 1) = g by rw [HT.out]; unfold mxi; rw [if_neg hx])
        go_wp2
        go_roundw
        case rel => exact ⟨k + 1, by omega, by go_num, by rw [HV.out], HB1⟩
        case measure => simp [intOf]; omega
    · obtain rfl : k = Y.length := by omega
      have HR2 := Lib.hid (HR1.out.step HB.out)
      have HB2 := Lib.hid (keep2 HB.out HB1.out)
      have hz2 := HR2.out.2.2
      clear HB HB1
      have x0 := HR2.out.c 0 rfl
      have x1 := HR2.out.c 1 rfl
      have x2 := HR2.out.c 2 rfl
      have z0 := HR2.out.f 0 (by simp)
      have z1 := HR2.out.f 1 (by simp)
      have z2 := HR2.out.f 2 (by simp)
      have hG := HG.out
      have hF := HF.out
      obtain ⟨g, hg⟩ : ∃ g, gN Y Y.length = g := ⟨_, rfl⟩
      rw [hg] at hG ⊢
      rw [hg] at hF
      clear hg HG HU
      go_wp2
      exact bodyPost_ret (v := .tuple #[.agg #[.int .i64 hub, .int .i64 F, .int .i64 (now + len)], .int .i64 0]) (by simp [results, Try.results13, go_sem, x0, x1, x2]) rfl (LPost.mk (by repeat (first | with_reducible exact HB2.out | with_reducible exact Below.refl _ _ | ((with_reducible refine Below.setCell ?_ ?_ _); rotate_left; focus (first | (simp; done) | (simp; omega) | omega)) | ((with_reducible refine Below.alloc ?_ ?_ _); rotate_left; focus (first | (simp; done) | (simp; omega) | omega)) | with_reducible refine Below.trans ?_ (below_drewN' _ _ _) | with_reducible refine Below.trans ?_ (below_drew _ _))))
theorem propose_any {L : List Vo} {A : List Bool} {hub now len h f u er : Int} (hp : PW L A hub now len h f u er) (v va : Value) (w : World) (hl : VosAt w v L) (ha : BosAt w va A) :
    Calls Try.prog 13 #[v, va, .int .i64 hub, .int .i64 now, .int .i64 len] w (LPost h f u er w) := by
  cases hp with
  | arg h => exact propose_arg v va L A hub now len w hl ha h
  | few h1 h2 => exact propose_few v va L A hub now len w hl ha h1 h2
  | lim h1 h2 h3 => exact propose_lim v va L A hub now len w hl ha h1 h2 h3
  | ok _ h1 h2 h3 h4 => exact propose_ok v va L A hub now len w hl ha h1 h2 h3 _ h4
open Go.RowKit

/-- How many agree. -/
def agreed (L : List Vo) (A : List Bool) (h f u now : Int) : Nat := cntN (agV h f u now) (yesN L A L.length) (yesN L A L.length).length
/-- The ways of 'Elect'. -/
inductive EW (L : List Vo) (A : List Bool) (hub now len : Int) : List Vo → Int → Int → Int → Int → Prop
  | no (h0 f0 u0 er : Int) : PW L A hub now len h0 f0 u0 er → er ≠ 0 → EW L A hub now len [] 0 0 0 er
  | few (h f u : Int) : PW L A hub now len h f u 0 → ¬ L.length < 2 * agreed L A h f u now → EW L A hub now len (elL L A h f u now) 0 0 0 22
  | ok (h f u : Int) : PW L A hub now len h f u 0 → L.length < 2 * agreed L A h f u now → EW L A hub now len (elL L A h f u now) h f u 0
theorem ew_total (L : List Vo) (A : List Bool) (hub now len : Int) : ∃ V h f u er, EW L A hub now len V h f u er := by
  obtain ⟨h, f, u, er, hp⟩ := pw_total L A hub now len
  by_cases he : er = 0
  · subst he
    by_cases h2 : L.length < 2 * agreed L A h f u now
    · exact ⟨_, _, _, _, _, .ok h f u hp h2⟩
    · exact ⟨_, _, _, _, _, .few h f u hp h2⟩
  · exact ⟨_, _, _, _, _, .no h f u er hp he⟩
theorem pw_ok {L : List Vo} {A : List Bool} {hub now len h f u : Int} (hp : PW L A hub now len h f u 0) : argB L.length A.length hub now len = true := by
  cases hp with
  | ok _ h1 => exact h1
def EPost (V : List Vo) (h f u er : Int) (w : World) (e : Ending) (w' : World) : Prop := ∃ r, e = .returned (.tuple #[r, .agg #[.int .i64 h, .int .i64 f, .int .i64 u], .int .i64 er]) ∧ VosAt w' r V ∧ Below w.heap.size w w'
theorem EPost.mk {V : List Vo} {h f u er : Int} {w w' : World} {r : Value} (hv : VosAt w' r V) (hb : Below w.heap.size w w') : EPost V h f u er w (.returned (.tuple #[r, .agg #[.int .i64 h, .int .i64 f, .int .i64 u], .int .i64 er])) w' := ⟨r, rfl, hv, hb⟩
set_option maxRecDepth 100000 in
set_option maxHeartbeats 4000000 in
theorem elect_no (v va : Value) (L : List Vo) (A : List Bool) (hub now len h f u er : Int) (w : World) (hl : VosAt w v L) (ha : BosAt w va A) (hp : PW L A hub now len h f u er) (he : er ≠ 0) :
    Calls Try.prog 6 #[v, va, .int .i64 hub, .int .i64 now, .int .i64 len] w (EPost [] 0 0 0 er w) := by
  have hla := Lib.hid hl
  have haa := Lib.hid ha
  obtain ⟨a, cap, rfl, hm, -⟩ := hl
  obtain ⟨aa, capa, rfl, hma, -⟩ := ha
  unfold maxLen at hm hma
  have HN := Lib.hid ((Cs.new w w.heap.size #[.int .i64 now] 3 rfl).alloc (.cells #[.int .i64 0, .int .i64 0, .int .i64 0] 37))
  have HO := Lib.hid (Cs.new (w.alloc (.cells #[.int .i64 now] 3)) (w.heap.size + 1) #[.int .i64 0, .int .i64 0, .int .i64 0] 37 (by simp))
  have HB := Lib.hid (al2 (w := w) (o1 := .cells #[.int .i64 now] 3) (o2 := .cells #[.int .i64 0, .int .i64 0, .int .i64 0] 37))
  have HP := Lib.hid (propose_any hp (.slice a L.length cap) (.slice aa A.length capa) _ (hla.out.step (al2 (w := w) (o1 := .cells #[.int .i64 now] 3) (o2 := .cells #[.int .i64 0, .int .i64 0, .int .i64 0] 37))) (haa.out.step (al2 (w := w))))
  have q : (er != 0) = true := by simpa using he
  have q2 : (er == 0) = false := by simpa using he
  clear hp he
  go_enter Try.func6, Try.ntmps6
  go_wp2_with fail
  refine HP.out.mono ?_
  rintro e w1 ⟨rfl, b1⟩
  have HOw := Lib.hid (HO.out.step b1)
  have HBw := Lib.hid (keep2 b1 HB.out)
  have HN1 := Lib.hid ((HN.out.step b1).alloc (.cells #[.int .i64 h, .int .i64 f, .int .i64 u] 37))
  have HO1 := Lib.hid ((HO.out.step b1).alloc (.cells #[.int .i64 h, .int .i64 f, .int .i64 u] 37))
  have HL1 := Lib.hid (Cs.new w1 w1.heap.size #[.int .i64 h, .int .i64 f, .int .i64 u] 37 rfl)
  have HB1 := Lib.hid ((keep2 b1 HB.out).alloc (keep2 b1 HB.out).size (.cells #[.int .i64 h, .int .i64 f, .int .i64 u] 37))
  have hz0 : w.heap.size + 1 + 1 ≤ w1.heap.size := by have := b1.size; simpa using this
  clear b1
  have x0 := HOw.out.c 0 rfl
  have x1 := HOw.out.c 1 rfl
  have x2 := HOw.out.c 2 rfl
  have z0 := HOw.out.f 0 (by simp)
  have z1 := HOw.out.f 1 (by simp)
  have z2 := HOw.out.f 2 (by simp)
  have hz := HOw.out.2.2
  have hz1 : w.heap.size + 1 < w1.heap.size := by omega
  go_wp2
  exact bodyPost_ret (v := .tuple #[.slice none 0 0, .agg #[.int .i64 0, .int .i64 0, .int .i64 0], .int .i64 er]) (by simp [results, Try.results6, go_sem, x0, x1, x2, hz1]) rfl (EPost.mk (vos_nil _) (by repeat (first | with_reducible exact HBw.out | with_reducible exact Below.refl _ _ | ((with_reducible refine Below.setCell ?_ ?_ _); rotate_left; focus (first | (simp; done) | (simp; omega) | omega)) | ((with_reducible refine Below.alloc ?_ ?_ _); rotate_left; focus (first | (simp; done) | (simp; omega) | omega)) | with_reducible refine Below.trans ?_ (below_drewN' _ _ _) | with_reducible refine Below.trans ?_ (below_drew _ _))))
set_option maxRecDepth 100000 in
set_option maxHeartbeats 8000000 in
theorem elect_few (v va : Value) (L : List Vo) (A : List Bool) (hub now len h f u : Int) (w : World) (hl : VosAt w v L) (ha : BosAt w va A) (hp : PW L A hub now len h f u 0) (hg : ¬ L.length < 2 * agreed L A h f u now) :
    Calls Try.prog 6 #[v, va, .int .i64 hub, .int .i64 now, .int .i64 len] w (EPost (elL L A h f u now) 0 0 0 22 w) := by
  have hla := Lib.hid hl
  have haa := Lib.hid ha
  obtain ⟨a, cap, rfl, hm, -⟩ := hl
  obtain ⟨aa, capa, rfl, hma, -⟩ := ha
  unfold maxLen at hm hma
  have HN := Lib.hid ((Cs.new w w.heap.size #[.int .i64 now] 3 rfl).alloc (.cells #[.int .i64 0, .int .i64 0, .int .i64 0] 37))
  have HO := Lib.hid (Cs.new (w.alloc (.cells #[.int .i64 now] 3)) (w.heap.size + 1) #[.int .i64 0, .int .i64 0, .int .i64 0] 37 (by simp))
  have HB := Lib.hid (al2 (w := w) (o1 := .cells #[.int .i64 now] 3) (o2 := .cells #[.int .i64 0, .int .i64 0, .int .i64 0] 37))
  have HP := Lib.hid (propose_any hp (.slice a L.length cap) (.slice aa A.length capa) _ (hla.out.step (al2 (w := w) (o1 := .cells #[.int .i64 now] 3) (o2 := .cells #[.int .i64 0, .int .i64 0, .int .i64 0] 37))) (haa.out.step (al2 (w := w))))
  obtain ⟨c0, c1, -, c3, -⟩ := arg_all (pw_ok hp)
  obtain ⟨c2, c4⟩ := inr_iff.1 c0
  obtain ⟨t1, t2⟩ := tm_of c3
  have HAL := Lib.hid (show A.length = L.length by omega)
  have h2 : 2 ≤ L.length := by omega
  have h3 : L.length ≤ 3 := by omega
  have HM := Lib.hid (show decide (L.length < 2 * agreed L A h f u now) = false by simpa using hg)
  clear hp hg c0 c1 c2 c3 c4
  go_enter Try.func6, Try.ntmps6
  go_wp2_with fail
  refine HP.out.mono ?_
  rintro e w1 ⟨rfl, b1⟩
  have HOw := Lib.hid (HO.out.step b1)
  have HBw := Lib.hid (keep2 b1 HB.out)
  have HN1 := Lib.hid ((HN.out.step b1).alloc (.cells #[.int .i64 h, .int .i64 f, .int .i64 u] 37))
  have HO1 := Lib.hid ((HO.out.step b1).alloc (.cells #[.int .i64 h, .int .i64 f, .int .i64 u] 37))
  have HL1 := Lib.hid (Cs.new w1 w1.heap.size #[.int .i64 h, .int .i64 f, .int .i64 u] 37 rfl)
  have HB1 := Lib.hid ((keep2 b1 HB.out).alloc (keep2 b1 HB.out).size (.cells #[.int .i64 h, .int .i64 f, .int .i64 u] 37))
  have hz0 : w.heap.size + 1 + 1 ≤ w1.heap.size := by have := b1.size; simpa using this
  clear b1
  have x0 := HL1.out.c 0 rfl
  have x1 := HL1.out.c 1 rfl
  have x2 := HL1.out.c 2 rfl
  have n0 := HN1.out.c 0 rfl
  have hl0 := HL1.out.2.2
  have hn0 := HN1.out.2.2
  simp only [World.size_alloc] at hl0 hn0
  have hn1 : w.heap.size < w1.heap.size := by omega
  have hn2 : w.heap.size + 1 < w1.heap.size := by omega
  have hla1 := Lib.hid (hla.out.step HB1.out)
  have haa1 := Lib.hid (haa.out.step HB1.out)
  have HVD := Lib.hid (voted_any _ _ L A h f u now _ hla1.out haa1.out HAL.out h2 h3)
  go_wp2_with fail
  refine HVD.out.mono ?_
  rintro e w2 ⟨rfl, hr, b2⟩
  rw [show (w1.alloc (.cells #[.int .i64 h, .int .i64 f, .int .i64 u] 37)).heap.size = w1.heap.size + 1 by simp] at hr ⊢
  have HRV := Lib.hid hr
  clear hr HVD
  have HN2 := Lib.hid (HN1.out.step b2)
  have HO2 := Lib.hid (HO1.out.step b2)
  have HL2 := Lib.hid (HL1.out.step b2)
  have HB2 := Lib.hid (keep2 b2 HB1.out)
  have hla2 := Lib.hid (hla.out.step HB2.out)
  have haa2 := Lib.hid (haa.out.step HB2.out)
  have HAN := Lib.hid (answering_any _ _ L A w2 hla2.out haa2.out HAL.out (by omega))
  clear x0 x1 x2 n0 HN1 HO1 HL1 HB1 hla1 haa1 b2
  clear hl0 hn0 hn1 hn2
  go_wp2_with fail
  refine HAN.out.mono ?_
  rintro e w3 ⟨y, rfl, hy, b3⟩
  have HN3 := Lib.hid (HN2.out.step b3)
  have HO3 := Lib.hid (HO2.out.step b3)
  have HL3 := Lib.hid (HL2.out.step b3)
  have HB3 := Lib.hid (keep2 b3 HB2.out)
  have HRV3 := Lib.hid (HRV.out.step b3)
  have HCN := Lib.hid (count_any y (yesN L A L.length) h f u now w1.heap.size w.heap.size w3 hy (by have := yesN_len L A L.length; omega) t1 t2 HL3.out HN3.out)
  have HY9 := Lib.hid (show agreed L A h f u now ≤ 1000000000 by have := yesN_len L A L.length; have := cntN_le (agV h f u now) (yesN L A L.length) (yesN L A L.length).length; unfold agreed; omega)
  clear b3 hy HN2 HO2 HL2 HB2 hla2 haa2 HAN HRV
  go_wp2_with fail
  refine HCN.out.mono ?_
  rintro e w4 ⟨rfl, b4⟩
  have HO4 := Lib.hid (HO3.out.step b4)
  have HL4 := Lib.hid (HL3.out.step b4)
  have HB4 := Lib.hid (keep2 b4 HB3.out)
  have HRV4 := Lib.hid (HRV3.out.step b4)
  clear b4 HCN HN3 HO3 HL3 HB3 HRV3
  rw [show cntN (agV h f u now) (yesN L A L.length) (yesN L A L.length).length = agreed L A h f u now from rfl]
  go_wp2_with fail
  refine (isMajority_q _ _ _ HM.out HY9.out _).mono ?_
  rintro e w' ⟨rfl, rfl⟩
  clear HM HY9
  have HFIN := Lib.hid (((HRV4.out.other (b := w.heap.size + 1) (by omega) 0 (.int .i64 0)).other (b := w.heap.size + 1) (by omega) 1 (.int .i64 0)).other (b := w.heap.size + 1) (by omega) 2 (.int .i64 0))
  clear HRV4
  have hl0 := HL4.out.2.2
  have ho0 := HO4.out.2.2
  have x0 := HL4.out.c 0 rfl
  have x1 := HL4.out.c 1 rfl
  have x2 := HL4.out.c 2 rfl
  have k0 := HO4.out.c 0 rfl
  have k1 := HO4.out.c 1 rfl
  have k2 := HO4.out.c 2 rfl
  have z0 := HO4.out.f 0 (by simp)
  have z1 := HO4.out.f 1 (by simp)
  have z2 := HO4.out.f 2 (by simp)
  go_wp2
  all_goals exact bodyPost_ret (v := .tuple #[.slice (some ⟨w1.heap.size + 1, 0, none⟩) L.length 3, .agg #[.int .i64 0, .int .i64 0, .int .i64 0], .int .i64 22]) (by simp [results, Try.results6, go_sem, k0, k1, k2]) rfl (EPost.mk HFIN.out (by repeat (first | with_reducible exact HB4.out | with_reducible exact Below.refl _ _ | ((with_reducible refine Below.setCell ?_ ?_ _); rotate_left; focus (first | (simp; done) | (simp; omega) | omega)) | ((with_reducible refine Below.alloc ?_ ?_ _); rotate_left; focus (first | (simp; done) | (simp; omega) | omega)) | with_reducible refine Below.trans ?_ (below_drewN' _ _ _) | with_reducible refine Below.trans ?_ (below_drew _ _))))
set_option maxRecDepth 100000 in
set_option maxHeartbeats 8000000 in
theorem elect_ok (v va : Value) (L : List Vo) (A : List Bool) (hub now len h f u : Int) (w : World) (hl : VosAt w v L) (ha : BosAt w va A) (hp : PW L A hub now len h f u 0) (hg : L.length < 2 * agreed L A h f u now) :
    Calls Try.prog 6 #[v, va, .int .i64 hub, .int .i64 now, .int .i64 len] w (EPost (elL L A h f u now) h f u 0 w) := by
  have hla := Lib.hid hl
  have haa := Lib.hid ha
  obtain ⟨a, cap, rfl, hm, -⟩ := hl
  obtain ⟨aa, capa, rfl, hma, -⟩ := ha
  unfold maxLen at hm hma
  have HN := Lib.hid ((Cs.new w w.heap.size #[.int .i64 now] 3 rfl).alloc (.cells #[.int .i64 0, .int .i64 0, .int .i64 0] 37))
  have HO := Lib.hid (Cs.new (w.alloc (.cells #[.int .i64 now] 3)) (w.heap.size + 1) #[.int .i64 0, .int .i64 0, .int .i64 0] 37 (by simp))
  have HB := Lib.hid (al2 (w := w) (o1 := .cells #[.int .i64 now] 3) (o2 := .cells #[.int .i64 0, .int .i64 0, .int .i64 0] 37))
  have HP := Lib.hid (propose_any hp (.slice a L.length cap) (.slice aa A.length capa) _ (hla.out.step (al2 (w := w) (o1 := .cells #[.int .i64 now] 3) (o2 := .cells #[.int .i64 0, .int .i64 0, .int .i64 0] 37))) (haa.out.step (al2 (w := w))))
  obtain ⟨c0, c1, -, c3, -⟩ := arg_all (pw_ok hp)
  obtain ⟨c2, c4⟩ := inr_iff.1 c0
  obtain ⟨t1, t2⟩ := tm_of c3
  have HAL := Lib.hid (show A.length = L.length by omega)
  have h2 : 2 ≤ L.length := by omega
  have h3 : L.length ≤ 3 := by omega
  have HM := Lib.hid (show decide (L.length < 2 * agreed L A h f u now) = true by simpa using hg)
  clear hp hg c0 c1 c2 c3 c4
  go_enter Try.func6, Try.ntmps6
  go_wp2_with fail
  refine HP.out.mono ?_
  rintro e w1 ⟨rfl, b1⟩
  have HOw := Lib.hid (HO.out.step b1)
  have HBw := Lib.hid (keep2 b1 HB.out)
  have HN1 := Lib.hid ((HN.out.step b1).alloc (.cells #[.int .i64 h, .int .i64 f, .int .i64 u] 37))
  have HO1 := Lib.hid ((HO.out.step b1).alloc (.cells #[.int .i64 h, .int .i64 f, .int .i64 u] 37))
  have HL1 := Lib.hid (Cs.new w1 w1.heap.size #[.int .i64 h, .int .i64 f, .int .i64 u] 37 rfl)
  have HB1 := Lib.hid ((keep2 b1 HB.out).alloc (keep2 b1 HB.out).size (.cells #[.int .i64 h, .int .i64 f, .int .i64 u] 37))
  have hz0 : w.heap.size + 1 + 1 ≤ w1.heap.size := by have := b1.size; simpa using this
  clear b1
  have x0 := HL1.out.c 0 rfl
  have x1 := HL1.out.c 1 rfl
  have x2 := HL1.out.c 2 rfl
  have n0 := HN1.out.c 0 rfl
  have hl0 := HL1.out.2.2
  have hn0 := HN1.out.2.2
  simp only [World.size_alloc] at hl0 hn0
  have hn1 : w.heap.size < w1.heap.size := by omega
  have hn2 : w.heap.size + 1 < w1.heap.size := by omega
  have hla1 := Lib.hid (hla.out.step HB1.out)
  have haa1 := Lib.hid (haa.out.step HB1.out)
  have HVD := Lib.hid (voted_any _ _ L A h f u now _ hla1.out haa1.out HAL.out h2 h3)
  go_wp2_with fail
  refine HVD.out.mono ?_
  rintro e w2 ⟨rfl, hr, b2⟩
  rw [show (w1.alloc (.cells #[.int .i64 h, .int .i64 f, .int .i64 u] 37)).heap.size = w1.heap.size + 1 by simp] at hr ⊢
  have HRV := Lib.hid hr
  clear hr HVD
  have HN2 := Lib.hid (HN1.out.step b2)
  have HO2 := Lib.hid (HO1.out.step b2)
  have HL2 := Lib.hid (HL1.out.step b2)
  have HB2 := Lib.hid (keep2 b2 HB1.out)
  have hla2 := Lib.hid (hla.out.step HB2.out)
  have haa2 := Lib.hid (haa.out.step HB2.out)
  have HAN := Lib.hid (answering_any _ _ L A w2 hla2.out haa2.out HAL.out (by omega))
  clear x0 x1 x2 n0 HN1 HO1 HL1 HB1 hla1 haa1 b2
  clear hl0 hn0 hn1 hn2
  go_wp2_with fail
  refine HAN.out.mono ?_
  rintro e w3 ⟨y, rfl, hy, b3⟩
  have HN3 := Lib.hid (HN2.out.step b3)
  have HO3 := Lib.hid (HO2.out.step b3)
  have HL3 := Lib.hid (HL2.out.step b3)
  have HB3 := Lib.hid (keep2 b3 HB2.out)
  have HRV3 := Lib.hid (HRV.out.step b3)
  have HCN := Lib.hid (count_any y (yesN L A L.length) h f u now w1.heap.size w.heap.size w3 hy (by have := yesN_len L A L.length; omega) t1 t2 HL3.out HN3.out)
  have HY9 := Lib.hid (show agreed L A h f u now ≤ 1000000000 by have := yesN_len L A L.length; have := cntN_le (agV h f u now) (yesN L A L.length) (yesN L A L.length).length; unfold agreed; omega)
  clear b3 hy HN2 HO2 HL2 HB2 hla2 haa2 HAN HRV
  go_wp2_with fail
  refine HCN.out.mono ?_
  rintro e w4 ⟨rfl, b4⟩
  have HO4 := Lib.hid (HO3.out.step b4)
  have HL4 := Lib.hid (HL3.out.step b4)
  have HB4 := Lib.hid (keep2 b4 HB3.out)
  have HRV4 := Lib.hid (HRV3.out.step b4)
  clear b4 HCN HN3 HO3 HL3 HB3 HRV3
  rw [show cntN (agV h f u now) (yesN L A L.length) (yesN L A L.length).length = agreed L A h f u now from rfl]
  go_wp2_with fail
  refine (isMajority_q _ _ _ HM.out HY9.out _).mono ?_
  rintro e w' ⟨rfl, rfl⟩
  clear HM HY9
  have HFIN := Lib.hid (((HRV4.out.other (b := w.heap.size + 1) (by omega) 0 (.int .i64 h)).other (b := w.heap.size + 1) (by omega) 1 (.int .i64 f)).other (b := w.heap.size + 1) (by omega) 2 (.int .i64 u))
  clear HRV4
  have hl0 := HL4.out.2.2
  have ho0 := HO4.out.2.2
  have x0 := HL4.out.c 0 rfl
  have x1 := HL4.out.c 1 rfl
  have x2 := HL4.out.c 2 rfl
  have k0 := HO4.out.c 0 rfl
  have k1 := HO4.out.c 1 rfl
  have k2 := HO4.out.c 2 rfl
  have z0 := HO4.out.f 0 (by simp)
  have z1 := HO4.out.f 1 (by simp)
  have z2 := HO4.out.f 2 (by simp)
  go_wp2_with fail
  go_region
  all_goals go_wp2
  all_goals exact bodyPost_ret (v := .tuple #[.slice (some ⟨w1.heap.size + 1, 0, none⟩) L.length 3, .agg #[.int .i64 h, .int .i64 f, .int .i64 u], .int .i64 0]) (by simp [results, Try.results6, go_sem, k0, k1, k2]) rfl (EPost.mk HFIN.out (by repeat (first | with_reducible exact HB4.out | with_reducible exact Below.refl _ _ | ((with_reducible refine Below.setCell ?_ ?_ _); rotate_left; focus (first | (simp; done) | (simp; omega) | omega)) | ((with_reducible refine Below.alloc ?_ ?_ _); rotate_left; focus (first | (simp; done) | (simp; omega) | omega)) | with_reducible refine Below.trans ?_ (below_drewN' _ _ _) | with_reducible refine Below.trans ?_ (below_drew _ _))))
theorem elect_any {L : List Vo} {A : List Bool} {hub now len : Int} {V : List Vo} {h f u er : Int} (hp : EW L A hub now len V h f u er) (v va : Value) (w : World) (hl : VosAt w v L) (ha : BosAt w va A) :
    Calls Try.prog 6 #[v, va, .int .i64 hub, .int .i64 now, .int .i64 len] w (EPost V h f u er w) := by
  cases hp with
  | no h0 f0 u0 _ h1 h2 => exact elect_no v va L A hub now len h0 f0 u0 er w hl ha h1 h2
  | few h f u h1 h2 => exact elect_few v va L A hub now len h f u w hl ha h1 h2
  | ok _ _ _ h1 h2 => exact elect_ok v va L A hub now len h f u w hl ha h1 h2
open Go.RowKit

theorem bos_lit (W : World) (l : List Bool) (cs : Array Value) (t : TypeId) (hc : cs.toList = l.map .bool) (hm : l.length ≤ 1000) (n : Nat) (hn : n = l.length) (b : Nat) (hb : b = W.heap.size) : BosAt (W.alloc (.cells cs t)) (.slice (some ⟨b, 0, none⟩) n n) l := by
  subst hn hb
  refine ⟨_, _, rfl, by unfold maxLen; omega, fun _ => ⟨W.heap.size, 0, rfl, fun i x hi => ?_⟩⟩
  rw [cell_new' W cs t _ (by rfl), ← Array.getElem?_toList, hc, List.getElem?_map, Nat.zero_add]
  simp [hi]
theorem vos_lit (W : World) (l : List Vo) (cs : Array Value) (t : TypeId) (hc : cs.toList = vcs l) (hm : l.length ≤ 1000) (n : Nat) (hn : n = l.length) (b : Nat) (hb : b = W.heap.size) : VosAt (W.alloc (.cells cs t)) (.slice (some ⟨b, 0, none⟩) n n) l := by
  subst hn hb
  refine ⟨_, _, rfl, by unfold maxLen; omega, fun _ => ⟨W.heap.size, 0, rfl, fun i x hi => ?_⟩⟩
  have hg := fun j hj => vcs_get l i x hi j hj
  simp only [cell_new' W cs t _ (by rfl), ← Array.getElem?_toList, hc, Nat.zero_add]
  exact ⟨(hg 0 (by omega)), (hg 1 (by omega)), (hg 2 (by omega))⟩
theorem hmk3 : ∀ w, (Instr.makeSlice 24 (.int .i64 3) (.int .i64 3)).run Try.prog w = .ok (.slice (some ⟨w.heap.size, 0, none⟩) 3 3) (w.alloc (.cells #[.int .i64 0, .int .i64 0, .int .i64 0, .int .i64 0, .int .i64 0, .int .i64 0, .int .i64 0, .int .i64 0, .int .i64 0] 64)) := fun _ => by kernel_rfl
end Go.Proofs.Ytnanndmpbecdiaa
