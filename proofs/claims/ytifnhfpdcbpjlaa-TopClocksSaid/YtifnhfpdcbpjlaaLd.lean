/- Leases: counting; the voters after they have voted. -/
import Derived.Test.YtifnhfpdcbpjlaaLc
import Derived.Laws.CopyOwn
namespace Go.Proofs.Ytifnhfpdcbpjlaa
open Go.RowKit

theorem heg25 : ∀ args w, (callFunc 19 args).run Try.prog w = .ok (.enter 19 args) w := fun _ _ => by kernel_rfl
theorem heg22 : ∀ args w, (callFunc 16 args).run Try.prog w = .ok (.enter 16 args) w := fun _ _ => by kernel_rfl
/-- How many of the first k fit. -/
def cntN (p : Vo → Bool) (l : List Vo) : Nat → Nat
  | 0 => 0
  | k + 1 => cntN p l k + (if p (l.getD k zV) then 1 else 0)
theorem cntN_le (p : Vo → Bool) (l : List Vo) : ∀ k, cntN p l k ≤ k
  | 0 => by simp [cntN]
  | k + 1 => by have := cntN_le p l k; rw [cntN]; split <;> omega
theorem cntN_yes {p : Vo → Bool} {l : List Vo} {k : Nat} (h : p (l.getD k zV) = true) : cntN p l (k + 1) = cntN p l k + 1 := by rw [cntN, h]; rfl
theorem cntN_no {p : Vo → Bool} {l : List Vo} {k : Nat} (h : p (l.getD k zV) = false) : cntN p l (k + 1) = cntN p l k := by rw [cntN, h]; rfl
def agV (h f u now : Int) (x : Vo) : Bool := agB x.f x.h x.u h f u now
set_option maxRecDepth 100000 in
set_option maxHeartbeats 4000000 in
theorem count_any (v : Value) (L : List Vo) (h f u now : Int) (b1 b2 : Nat) (w : World) (hl : VosAt w v L) (h9 : L.length ≤ 1000) (t1 : 0 ≤ now) (t2 : now ≤ 1000000000) (hc1 : Cs w b1 (lsc h f u)) (hc2 : Cs w b2 #[.int .i64 now]) :
    Calls Try.prog 17 #[v, .func (.func 19) #[] #[.pointer (some ⟨b1, 0, none⟩), .pointer (some ⟨b2, 0, none⟩)]] w fun e w' => e = .returned (.int .i64 (cntN (agV h f u now) L L.length)) ∧ Below w.heap.size w w' := by
  have HL := Lib.hid hl
  obtain ⟨a, cap, rfl, -, -⟩ := hl
  have HC := Lib.hid (show ∀ (x : Vo) w1, Below w.heap.size w w1 → Calls Try.prog 19 #[.agg #[.int .i64 x.f, .int .i64 x.h, .int .i64 x.u], .pointer (some ⟨b1, 0, none⟩), .pointer (some ⟨b2, 0, none⟩)] w1 fun e w' => e = .returned (.bool (agV h f u now x)) ∧ Below w1.heap.size w1 w' from fun x w1 hb => efit_any x.f x.h x.u h f u now b1 b2 w1 t1 t2 (hc1.step hb) (hc2.step hb))
  clear hc1 hc2 t1 t2
  have heg := heg25
  go_enter Try.func17, Try.ntmps17
  go_wp2_with fail
  go_loopw [5, 10] (fun n i wr => ∃ k : Nat, k ≤ L.length ∧ i = .int .i64 k ∧ n = .int .i64 (cntN (agV h f u now) L k) ∧ Hid (Below w.heap.size w wr)) (fun _ i _ => L.length - (intOf i).toNat)
  case atStart => exact ⟨0, by omega, rfl, rfl, Below.refl _ _⟩
  case round =>
    obtain ⟨k, hk, rfl, rfl, HB⟩ := hrel
    have hsz := HB.out.size
    by_cases hlt : k < L.length
    · obtain ⟨a2, cap2, hva, -, hcs⟩ := HL.out.step HB.out
      obtain ⟨rfl, rfl⟩ : a = a2 ∧ cap = cap2 := by simpa using hva
      obtain ⟨b, off, rfl, hcs2⟩ := hcs (by intro h; rw [h] at hlt; simp at hlt)
      obtain ⟨x0, x1, x2⟩ := hcs2 k _ (vo_get hlt)
      have HY := Lib.hid (cntN_le (agV h f u now) L k)
      have HY2 := HY.out
      clear hcs hva hcs2
      have HB1 := Lib.hid (HB.out.alloc hsz (.cells #[.int .i64 (L.getD k zV).f, .int .i64 (L.getD k zV).h, .int .i64 (L.getD k zV).u] 32))
      cases hA : agV h f u now (L.getD k zV)
      · have HT := Lib.hid (cntN_no hA)
        have HA := Lib.hid hA
        clear hA
        generalize L.getD k zV = x at *
        generalize cntN (agV h f u now) L k = c at *
        go_wp2_with fail
        refine (HC.out x _ HB1.out).mono ?_
        rintro e w2 ⟨rfl, bb⟩
        rw [HA.out]
        have HB2 := Lib.hid (keep2 bb HB1.out)
        clear bb x0 x1 x2
        go_wp2
        go_roundw
        case rel => exact ⟨k + 1, by omega, by go_num, by rw [HT.out], HB2⟩
        case measure => simp [intOf]; omega
      · have HT := Lib.hid (cntN_yes hA)
        have HA := Lib.hid hA
        clear hA
        generalize L.getD k zV = x at *
        generalize cntN (agV h f u now) L k = c at *
        go_wp2_with fail
        refine (HC.out x _ HB1.out).mono ?_
        rintro e w2 ⟨rfl, bb⟩
        rw [HA.out]
        have HB2 := Lib.hid (keep2 bb HB1.out)
        clear bb x0 x1 x2
        go_wp2
        go_roundw
        case rel => exact ⟨k + 1, by omega, by go_num, by rw [HT.out]; go_num, HB2⟩
        case measure => simp [intOf]; omega
    · obtain rfl : k = L.length := by omega
      go_wp2
      go_ret
      exact ⟨rfl, HB.out⟩

/-- 'copy' of structs of three cells into a row of the call's own. -/
theorem run_copy3 {P : Program} (w : World) (dT sT ty elem : TypeId) (g dLen dCap : Nat) (a : Addr) (sLen sCap : Nat) (cur : Array Value) (t : TypeId) (cs : List Value)
    (hu : P.underlying dT = some (.slice elem)) (hs : (P.info? elem).map (·.size) = some 3) (hg : w.heap[g]? = some (.cells cur t (0, 0))) (hn : cs.length = Nat.min sLen dLen * 3)
    (hsrc : ∀ j v, cs[j]? = some v → w.cell? (a.add j) = some v) (hfit : cs.length ≤ cur.size) (h1 : ∀ v ∈ cs, v.oneCell' = true) :
    (Builtin.copy_ #[dT, sT] ty #[.slice (some ⟨g, 0, none⟩) dLen dCap, .slice (some a) sLen sCap]).run P w = .ok (goInt (Nat.min sLen dLen)) (w.setRow g (cs ++ cur.toList.drop cs.length).toArray) := by
  have hl := run_loadCells_list (P := P) w a cs hsrc
  have hst := run_storeCells_at P g 0 t cs 0 cur w hg (by simpa using hfit) h1
  rw [hn] at hl
  cases hq : P.info? elem with
  | none => simp [hq] at hs
  | some i =>
    have hi : i.size = 3 := by simpa [hq] using hs
    simp [Builtin.copy_, run_underlying hu, Builtin.lenOf, Builtin.firstCells, sizeOf, typeInfo, hq, hi, hl, hst]
theorem wpList_copy3 {P : Program} {w : World} {ops : Array Oper} {rest : List Oper} {o : Oper} {a : Act} {Q : Exit → Act → World → Prop} (hgd : o.guard = none) (d s : Operand) (dT sT : TypeId)
    (ho : o.op = .call { callee := .builtin .copy, args := #[d, s], argTypes := #[dT, sT] }) (elem : TypeId) (hu : P.underlying dT = some (.slice elem)) (hsz : (P.info? elem).map (·.size) = some 3)
    (g dLen dCap : Nat) (ad : Addr) (sLen sCap : Nat) (hd : a.eval d = .slice (some ⟨g, 0, none⟩) dLen dCap) (hs : a.eval s = .slice (some ad) sLen sCap)
    (cur : Array Value) (t : TypeId) (hg : w.heap[g]? = some (.cells cur t (0, 0))) (cs : List Value) (hn : cs.length = Nat.min sLen dLen * 3)
    (hsrc : ∀ j v, cs[j]? = some v → w.cell? (ad.add j) = some v) (hfit : cs.length ≤ cur.size) (h1 : ∀ v ∈ cs, v.oneCell' = true) (B : Nat) (w0 : World) (hb : Below B w0 w) (hBg : B ≤ g)
    (h : ∀ w', Hid (w'.heap[g]? = some (.cells (cs ++ cur.toList.drop cs.length).toArray t (0, 0))) → Hid (Below B w0 w') → wpList P ops Q rest (a.put o.dst (goInt (Nat.min sLen dLen))) w') : wpList P ops Q (o :: rest) a w := by
  refine wpList_plain hgd fun K hK => ?_
  have hrun := run_copy3 (P := P) w dT sT o.type elem g dLen dCap ad sLen sCap cur t cs hu hsz hg hn hsrc hfit h1
  unfold Oper.wp
  simp [execOp, ho, resolve, invoke, builtin, hd, hs, hrun, Result.andThen]
  exact hK _ _ (h _ (Lib.hid (setRow_heap w g cur _ t _ hg)) (Lib.hid (below_setRow hb hBg _)))
theorem vcs_at {w : World} {b off : Nat} {L : List Vo} (h : ∀ (i : Nat) (x : Vo), L[i]? = some x →
    w.cell? ⟨b, off + i * 3, none⟩ = some (.int .i64 x.f) ∧ w.cell? ⟨b, off + i * 3 + 1, none⟩ = some (.int .i64 x.h) ∧ w.cell? ⟨b, off + i * 3 + 2, none⟩ = some (.int .i64 x.u)) : ∀ j v, (vcs L)[j]? = some v → w.cell? ((⟨b, off, none⟩ : Addr).add j) = some v := by
  intro j v hj
  rw [Go.WideShapes.add_plain]
  have hlen : (vcs L).length = L.length * 3 := by
    clear h hj
    induction L with
    | nil => rfl
    | cons x l ih => rw [show vcs (x :: l) = x.cells ++ vcs l by simp [vcs], List.length_append, ih]; simp [Vo.cells]; omega
  have hlt : j < L.length * 3 := by rw [← hlen]; exact (List.getElem?_eq_some_iff.1 hj).1
  have hi : j / 3 < L.length := by omega
  have hg := vcs_get L (j / 3) _ (vo_get hi) (j % 3) (by omega)
  rw [show j / 3 * 3 + j % 3 = j by omega] at hg
  rw [hg] at hj
  obtain ⟨y0, y1, y2⟩ := h (j / 3) _ (vo_get hi)
  have hm : j % 3 = 0 ∨ j % 3 = 1 ∨ j % 3 = 2 := by omega
  rcases hm with hm | hm | hm <;> rw [hm] at hj
  · have e : off + j / 3 * 3 = off + j := by omega
    rw [e] at y0; rw [y0]; simpa [Vo.cells] using hj
  · have e : off + j / 3 * 3 + 1 = off + j := by omega
    rw [e] at y1; rw [y1]; simpa [Vo.cells] using hj
  · have e : off + j / 3 * 3 + 2 = off + j := by omega
    rw [e] at y2; rw [y2]; simpa [Vo.cells] using hj
theorem vcs_one' (L : List Vo) : ∀ v ∈ vcs L, v.oneCell' = true := by
  intro v hv
  simp only [vcs, List.mem_flatMap, Vo.cells] at hv
  obtain ⟨x, -, hx⟩ := hv
  simp at hx
  rcases hx with rfl | rfl | rfl <;> rfl
theorem Cs.of_heap {w : World} {g : Nat} {cs : Array Value} {t : TypeId} (h : w.heap[g]? = some (.cells cs t (0, 0))) : Cs w g cs :=
  ⟨fun j _ => by simp [World.cell?, h], fun j _ => by simp [World.frozen?, h], (Array.getElem?_eq_some_iff.1 h).1⟩
theorem VosAt.other {w : World} {g n c b : Nat} {l : List Vo} (h : VosAt w (.slice (some ⟨g, 0, none⟩) n c) l) (hne : g ≠ b) (j : Nat) (v : Value) : VosAt (w.setCell ⟨b, j, none⟩ v) (.slice (some ⟨g, 0, none⟩) n c) l := by
  obtain ⟨a, cap, hv, hm, hc⟩ := h
  refine ⟨a, cap, hv, hm, fun hl => ?_⟩
  obtain ⟨b2, off, ha, hx⟩ := hc hl
  obtain rfl : b2 = g := by
    rw [ha] at hv
    simp only [Value.slice.injEq, Option.some.injEq, Addr.mk.injEq] at hv
    exact hv.1.1.symm
  have hk : ∀ i, (w.setCell ⟨b, j, none⟩ v).cell? ⟨b2, i, none⟩ = w.cell? ⟨b2, i, none⟩ := fun i => World.cell?_of_block (a := ⟨b2, i, none⟩) (Below.heap_setCell w ⟨b, j, none⟩ v b2 hne)
  exact ⟨b2, off, ha, fun i x hi => by rw [hk, hk, hk]; exact hx i x hi⟩
/-- A voter after the vote. -/
def votV (h f u now : Int) (x : Vo) : Vo := if voB x.f x.h x.u h f u now then ⟨f, h, grU x.h x.u h u⟩ else x
theorem evoteV (h f u now : Int) (x : Vo) (w : World) : Calls Try.prog 16 #[.agg #[.int .i64 h, .int .i64 f, .int .i64 u, .int .i64 now], .agg #[.int .i64 x.f, .int .i64 x.h, .int .i64 x.u]] w fun e w' => e = .returned (.agg #[.int .i64 (votV h f u now x).f, .int .i64 (votV h f u now x).h, .int .i64 (votV h f u now x).u]) ∧ Below w.heap.size w w' :=
  (evote_any x.f x.h x.u h f u now w).mono fun e w' hh => ⟨by rw [hh.1]; unfold votedV votV; split <;> rfl, hh.2⟩
def arr9 (x y z : Vo) : Array Value := #[.int .i64 x.f, .int .i64 x.h, .int .i64 x.u, .int .i64 y.f, .int .i64 y.h, .int .i64 y.u, .int .i64 z.f, .int .i64 z.h, .int .i64 z.u]
/-- The k-th voter after those that answer have voted, when the first n have been asked. -/
def elV (L : List Vo) (A : List Bool) (h f u now : Int) (n k : Nat) : Vo := if k < n ∧ A.getD k false = true then votV h f u now (L.getD k zV) else L.getD k zV
def elL (L : List Vo) (A : List Bool) (h f u now : Int) : List Vo := (List.range L.length).map (elV L A h f u now L.length)
theorem elV_ne {L : List Vo} {A : List Bool} {h f u now : Int} {n k : Nat} (hk : k ≠ n) : elV L A h f u now (n + 1) k = elV L A h f u now n k := by
  unfold elV
  by_cases h1 : k < n
  · simp [h1, show k < n + 1 by omega]
  · simp [h1, show ¬ k < n + 1 by omega]
theorem elV_no {L : List Vo} {A : List Bool} {h f u now : Int} {n k : Nat} (hk : A.getD k false = false) : elV L A h f u now n k = L.getD k zV := by
  unfold elV; rw [if_neg (by rw [hk]; simp)]
theorem elV_ge {L : List Vo} {A : List Bool} {h f u now : Int} {n k : Nat} (hk : n ≤ k) : elV L A h f u now n k = L.getD k zV := by
  unfold elV; rw [if_neg (by omega)]
theorem elV_yes {L : List Vo} {A : List Bool} {h f u now : Int} {k : Nat} (hk : A.getD k false = true) : elV L A h f u now (k + 1) k = votV h f u now (L.getD k zV) := by
  unfold elV; rw [if_pos ⟨by omega, hk⟩]
abbrev el9 (L : List Vo) (A : List Bool) (h f u now : Int) (n : Nat) : Array Value := arr9 (elV L A h f u now n 0) (elV L A h f u now n 1) (elV L A h f u now n 2)
theorem vos_el {w : World} {g : Nat} {L : List Vo} {A : List Bool} {h f u now : Int} (hC : Cs w g (el9 L A h f u now L.length)) (h2 : 2 ≤ L.length) (h3 : L.length ≤ 3) : VosAt w (.slice (some ⟨g, 0, none⟩) L.length 3) (elL L A h f u now) := by
  have hlen : (elL L A h f u now).length = L.length := by simp [elL]
  refine ⟨_, 3, by rw [hlen], by rw [hlen]; unfold maxLen; omega, fun _ => ⟨g, 0, rfl, fun i x hi => ?_⟩⟩
  have hlt : i < L.length := by rw [← hlen]; exact (List.getElem?_eq_some_iff.1 hi).1
  have hx : x = elV L A h f u now L.length i := by
    unfold elL at hi
    rw [List.getElem?_map, List.getElem?_range hlt] at hi
    simpa using hi.symm
  subst hx
  obtain rfl | rfl | rfl : i = 0 ∨ i = 1 ∨ i = 2 := by omega
  · exact ⟨hC.c 0 rfl, hC.c 1 rfl, hC.c 2 rfl⟩
  · exact ⟨hC.c 3 rfl, hC.c 4 rfl, hC.c 5 rfl⟩
  · exact ⟨hC.c 6 rfl, hC.c 7 rfl, hC.c 8 rfl⟩
theorem el9_start {L : List Vo} {A : List Bool} {h f u now : Int} (h2 : 2 ≤ L.length) (h3 : L.length ≤ 3) : (vcs L ++ (#[Value.int .i64 0, .int .i64 0, .int .i64 0, .int .i64 0, .int .i64 0, .int .i64 0, .int .i64 0, .int .i64 0, .int .i64 0] : Array Value).toList.drop (vcs L).length).toArray = el9 L A h f u now 0 := by
  unfold el9
  rw [elV_ge (Nat.zero_le _), elV_ge (Nat.zero_le _), elV_ge (Nat.zero_le _)]
  match L, h2, h3 with
  | [x, y], _, _ => rfl
  | [x, y, z], _, _ => rfl
set_option maxRecDepth 100000 in
set_option maxHeartbeats 8000000 in
theorem voted_any (v va : Value) (L : List Vo) (A : List Bool) (h f u now : Int) (w : World) (hl : VosAt w v L) (ha : BosAt w va A) (hn : A.length = L.length) (h2 : 2 ≤ L.length) (h3 : L.length ≤ 3) :
    Calls Try.prog 15 #[v, va, .func (.func 16) #[.agg #[.int .i64 h, .int .i64 f, .int .i64 u, .int .i64 now]] #[]] w fun e w' => e = .returned (.slice (some ⟨w.heap.size, 0, none⟩) L.length 3) ∧ VosAt w' (.slice (some ⟨w.heap.size, 0, none⟩) L.length 3) (elL L A h f u now) ∧ Below w.heap.size w w' := by
  have HA := Lib.hid ha
  obtain ⟨a, cap, rfl, -, hcs⟩ := hl
  obtain ⟨aa, capa, rfl, -, -⟩ := ha
  obtain ⟨b, off, rfl, hct⟩ := hcs (by intro h; rw [h] at h2; simp at h2)
  have HS := Lib.hid (vcs_at (w := w.alloc (.cells #[.int .i64 0, .int .i64 0, .int .i64 0, .int .i64 0, .int .i64 0, .int .i64 0, .int .i64 0, .int .i64 0, .int .i64 0] 78)) (fun i x hx => ⟨keep1 (al _ _) (hct i x hx).1, keep1 (al _ _) (hct i x hx).2.1, keep1 (al _ _) (hct i x hx).2.2⟩))
  have HN := Lib.hid hn
  have HV := Lib.hid (evoteV h f u now)
  have HE0 := Lib.hid (el9_start (A := A) (h := h) (f := f) (u := u) (now := now) h2 h3)
  have HM := Lib.hid (show (vcs L).length = Nat.min L.length 3 * 3 by
    rw [show Nat.min L.length 3 = L.length from Nat.min_eq_left h3]
    match L, h2, h3 with
    | [x, y], _, _ => rfl
    | [x, y, z], _, _ => rfl)
  have HM2 := Lib.hid (show (vcs L).length ≤ 9 by rw [HM.out, show Nat.min L.length 3 = L.length from Nat.min_eq_left h3]; omega)
  clear hn hcs hct
  have heg := heg22
  go_enter Try.func15, Try.ntmps15
  go_wp2_with ((with_reducible refine wpList_copy3 rfl (.tmp 10) (.tmp 11) 37 37 rfl 32 Try.underlying37 (by kernel_rfl) w.heap.size 3 3 ⟨b, off, none⟩ L.length cap rfl rfl _ 78 (heap_alloc_new _ _) (vcs L) HM.out HS.out (by simpa using HM2.out) (vcs_one' L) w.heap.size w (al _ _) (Nat.le_refl _) ?_); intro w1 HG HB0)
  have HC0 : Hid (Cs w1 w.heap.size (el9 L A h f u now 0)) := Lib.hid (by rw [← HE0.out]; exact Cs.of_heap HG.out)
  clear HG
  go_loopw [15] (fun i wr => ∃ k : Nat, k ≤ L.length ∧ i = .int .i64 k ∧ Hid (Cs wr w.heap.size (el9 L A h f u now k)) ∧ Hid (Below w.heap.size w wr)) (fun i _ => A.length - (intOf i).toNat)
  case atStart => exact ⟨0, by omega, rfl, HC0, HB0⟩
  case round =>
    obtain ⟨k, hk, rfl, HC, HB⟩ := hrel
    have hsz := HB.out.size
    have hN := HN.out
    by_cases hlt : k < A.length
    · obtain ⟨a3, cap3, hvb, -, hct⟩ := HA.out.step HB.out
      obtain ⟨rfl, rfl⟩ : aa = a3 ∧ capa = cap3 := by simpa using hvb
      obtain ⟨b2, off2, rfl, hct2⟩ := hct (by intro h; rw [h] at hlt; simp at hlt)
      have y0 := hct2 k _ (bo_get hlt)
      clear hct hvb hct2
      cases hA : A.getD k false
      · have HE := Lib.hid (show el9 L A h f u now (k + 1) = el9 L A h f u now k by
          unfold el9
          have e : ∀ j, elV L A h f u now (k + 1) j = elV L A h f u now k j := fun j => by
            by_cases hj : j = k
            · subst hj; rw [elV_no hA, elV_no hA]
            · exact elV_ne hj
          rw [e, e, e])
        rw [hA] at y0
        clear hA
        clear hN
        go_wp2
        go_roundw
        case rel => exact ⟨k + 1, by have := HN.out; omega, by go_num, by rw [HE.out]; exact HC, HB⟩
        case measure => simp [intOf]; omega
      · rw [hA] at y0
        have hk3 : k < 3 := by omega
        clear hN
        obtain rfl | rfl | rfl : k = 0 ∨ k = 1 ∨ k = 2 := by omega
        · have HE := Lib.hid (show el9 L A h f u now (0 + 1) = arr9 (votV h f u now (elV L A h f u now 0 0)) (elV L A h f u now 0 1) (elV L A h f u now 0 2) by
            unfold el9; rw [elV_yes hA, elV_ne (k := 1) (n := 0) (by omega), elV_ne (k := 2) (n := 0) (by omega), elV_ge (n := 0) (k := 0) (Nat.le_refl _)])
          clear hA
          obtain ⟨p0, p1, p2, hp0, hp1, hp2⟩ : ∃ p0 p1 p2 : Vo, elV L A h f u now 0 0 = p0 ∧ elV L A h f u now 0 1 = p1 ∧ elV L A h f u now 0 2 = p2 := ⟨_, _, _, rfl, rfl, rfl⟩
          unfold el9 at HC
          rw [hp0, hp1, hp2] at HC HE
          clear hp0 hp1 hp2
          have x0 := HC.out.c 0 rfl
          have x1 := HC.out.c 1 rfl
          have x2 := HC.out.c 2 rfl
          rw [Nat.add_zero] at y0
          rw [show ((0 : Nat) : Int) = 0 from rfl]
          go_wp2_with fail
          refine (HV.out p0 _).mono ?_
          rintro e w2 ⟨rfl, bb⟩
          have HC1 := Lib.hid (HC.out.step bb)
          have HB1 := Lib.hid (keep2 bb HB.out)
          clear bb x0 x1 x2 y0
          have x0 := HC1.out.c 0 rfl
          have x1 := HC1.out.c 1 rfl
          have x2 := HC1.out.c 2 rfl
          have z0 := HC1.out.f 0 (by simp [arr9])
          have z1 := HC1.out.f 1 (by simp [arr9])
          have z2 := HC1.out.f 2 (by simp [arr9])
          generalize hq : votV h f u now p0 = q at *
          have HC2 := Lib.hid (((HC1.out.set 0 (by simp [arr9]) (.int .i64 q.f) rfl).set 1 (by simp [arr9]) (.int .i64 q.h) rfl).set 2 (by simp [arr9]) (.int .i64 q.u) (vs' := arr9 q p1 p2) rfl)
          clear hq
          go_wp2
          go_roundw
          case rel => exact ⟨0 + 1, by have := HN.out; omega, by go_num, by rw [HE.out]; exact HC2, Lib.hid (by repeat (first | with_reducible exact HB1.out | with_reducible exact Below.refl _ _ | ((with_reducible refine Below.setCell ?_ ?_ _); rotate_left; focus (first | (simp; done) | (simp; omega) | omega)) | ((with_reducible refine Below.alloc ?_ ?_ _); rotate_left; focus (first | (simp; done) | (simp; omega) | omega)) | with_reducible refine Below.trans ?_ (below_drewN' _ _ _) | with_reducible refine Below.trans ?_ (below_drew _ _)))⟩
          case measure => simp [intOf]; omega
        · have HE := Lib.hid (show el9 L A h f u now (1 + 1) = arr9 (elV L A h f u now 1 0) (votV h f u now (elV L A h f u now 1 1)) (elV L A h f u now 1 2) by
            unfold el9; rw [elV_ne (k := 0) (n := 1) (by omega), elV_yes hA, elV_ne (k := 2) (n := 1) (by omega), elV_ge (n := 1) (k := 1) (Nat.le_refl _)])
          clear hA
          obtain ⟨p0, p1, p2, hp0, hp1, hp2⟩ : ∃ p0 p1 p2 : Vo, elV L A h f u now 1 0 = p0 ∧ elV L A h f u now 1 1 = p1 ∧ elV L A h f u now 1 2 = p2 := ⟨_, _, _, rfl, rfl, rfl⟩
          unfold el9 at HC
          rw [hp0, hp1, hp2] at HC HE
          clear hp0 hp1 hp2
          have x0 := HC.out.c 3 rfl
          have x1 := HC.out.c 4 rfl
          have x2 := HC.out.c 5 rfl
          go_wp2_with fail
          refine (HV.out p1 _).mono ?_
          rintro e w2 ⟨rfl, bb⟩
          have HC1 := Lib.hid (HC.out.step bb)
          have HB1 := Lib.hid (keep2 bb HB.out)
          clear bb x0 x1 x2 y0
          have x0 := HC1.out.c 3 rfl
          have x1 := HC1.out.c 4 rfl
          have x2 := HC1.out.c 5 rfl
          have z0 := HC1.out.f 3 (by simp [arr9])
          have z1 := HC1.out.f 4 (by simp [arr9])
          have z2 := HC1.out.f 5 (by simp [arr9])
          generalize hq : votV h f u now p1 = q at *
          have HC2 := Lib.hid (((HC1.out.set 3 (by simp [arr9]) (.int .i64 q.f) rfl).set 4 (by simp [arr9]) (.int .i64 q.h) rfl).set 5 (by simp [arr9]) (.int .i64 q.u) (vs' := arr9 p0 q p2) rfl)
          clear hq
          go_wp2
          go_roundw
          case rel => exact ⟨1 + 1, by have := HN.out; omega, by go_num, by rw [HE.out]; exact HC2, Lib.hid (by repeat (first | with_reducible exact HB1.out | with_reducible exact Below.refl _ _ | ((with_reducible refine Below.setCell ?_ ?_ _); rotate_left; focus (first | (simp; done) | (simp; omega) | omega)) | ((with_reducible refine Below.alloc ?_ ?_ _); rotate_left; focus (first | (simp; done) | (simp; omega) | omega)) | with_reducible refine Below.trans ?_ (below_drewN' _ _ _) | with_reducible refine Below.trans ?_ (below_drew _ _)))⟩
          case measure => simp [intOf]; omega
        · have HE := Lib.hid (show el9 L A h f u now (2 + 1) = arr9 (elV L A h f u now 2 0) (elV L A h f u now 2 1) (votV h f u now (elV L A h f u now 2 2)) by
            unfold el9; rw [elV_ne (k := 0) (n := 2) (by omega), elV_ne (k := 1) (n := 2) (by omega), elV_yes hA, elV_ge (n := 2) (k := 2) (Nat.le_refl _)])
          clear hA
          obtain ⟨p0, p1, p2, hp0, hp1, hp2⟩ : ∃ p0 p1 p2 : Vo, elV L A h f u now 2 0 = p0 ∧ elV L A h f u now 2 1 = p1 ∧ elV L A h f u now 2 2 = p2 := ⟨_, _, _, rfl, rfl, rfl⟩
          unfold el9 at HC
          rw [hp0, hp1, hp2] at HC HE
          clear hp0 hp1 hp2
          have x0 := HC.out.c 6 rfl
          have x1 := HC.out.c 7 rfl
          have x2 := HC.out.c 8 rfl
          go_wp2_with fail
          refine (HV.out p2 _).mono ?_
          rintro e w2 ⟨rfl, bb⟩
          have HC1 := Lib.hid (HC.out.step bb)
          have HB1 := Lib.hid (keep2 bb HB.out)
          clear bb x0 x1 x2 y0
          have x0 := HC1.out.c 6 rfl
          have x1 := HC1.out.c 7 rfl
          have x2 := HC1.out.c 8 rfl
          have z0 := HC1.out.f 6 (by simp [arr9])
          have z1 := HC1.out.f 7 (by simp [arr9])
          have z2 := HC1.out.f 8 (by simp [arr9])
          generalize hq : votV h f u now p2 = q at *
          have HC2 := Lib.hid (((HC1.out.set 6 (by simp [arr9]) (.int .i64 q.f) rfl).set 7 (by simp [arr9]) (.int .i64 q.h) rfl).set 8 (by simp [arr9]) (.int .i64 q.u) (vs' := arr9 p0 p1 q) rfl)
          clear hq
          go_wp2
          go_roundw
          case rel => exact ⟨2 + 1, by have := HN.out; omega, by go_num, by rw [HE.out]; exact HC2, Lib.hid (by repeat (first | with_reducible exact HB1.out | with_reducible exact Below.refl _ _ | ((with_reducible refine Below.setCell ?_ ?_ _); rotate_left; focus (first | (simp; done) | (simp; omega) | omega)) | ((with_reducible refine Below.alloc ?_ ?_ _); rotate_left; focus (first | (simp; done) | (simp; omega) | omega)) | with_reducible refine Below.trans ?_ (below_drewN' _ _ _) | with_reducible refine Below.trans ?_ (below_drew _ _)))⟩
          case measure => simp [intOf]; omega
    · obtain rfl : k = L.length := by omega
      clear hN
      have HQ := Lib.hid (vos_el HC.out h2 h3)
      have e23 : L.length = 2 ∨ L.length = 3 := by omega
      rcases e23 with e | e
      all_goals
        rw [e] at HQ hlt ⊢
        have HQ2 := Lib.hid HQ.out
        have HE := Lib.hid e
        clear e HQ
        clear h2 h3 hk
        go_wp2
        go_ret
        exact ⟨congrArg (fun n : Nat => Ending.returned (.slice (some ⟨w.heap.size, 0, none⟩) n 3)) HE.out.symm, by rw [HE.out]; exact HQ2.out, HB.out⟩
end Go.Proofs.Ytifnhfpdcbpjlaa
