/- Delivery: one order taken out of a list of one's own. -/
import Derived.Test.YtkamkkjijjkfdaaDi
import Derived.Laws.OwnMore
import Derived.Lib.SliceRun
import Derived.Deep.RegionLaw
namespace Go.Proofs.Ytkamkkjijjkfdaa
open Go.RowKit

theorem step_app {ops : Array Oper} {o : Oper} {a : Act} {w w' : World} {K : Act → World → Prop} {Q : Exit → Act → World → Prop} {E : Prop} (hgd : o.guard = none) (s x : Operand) (t : TypeId)
    (ho : o.op = .call { callee := .builtin .append, args := #[s, x], argTypes := #[t, t] }) (v sl v' : Value) (hs : a.eval s = v) (hx : a.eval x = sl)
    (hr : (Builtin.append_ #[t, t] o.type #[v, sl]).run Try.prog w = .ok v' w') (h : K (a.put o.dst v') w') :
    if Region.wanted o (yielded ops a.tmps) = true then Oper.wp Try.prog o a w K Q else E := by
  have hw : Region.wanted o (yielded ops a.tmps) = true := by simp [Region.wanted, hgd]
  rw [if_pos hw]
  unfold Oper.wp execOp
  simp only [ho, resolve, invoke, builtin, Sem.run_bind, Sem.run_pure, Result.andThen_ok, List.map_toArray, List.map_cons, List.map_nil, hs, hx, hr]
  exact h
theorem od_zero : ∀ w, (zeroValue 32).run Try.prog w = .ok (.agg #[.int .i64 0, .int .i64 0, .int .i64 0, .int .i64 0]) w := fun _ => by kernel_rfl
theorem od_clear1 (w : World) (ty : TypeId) (b o c : Nat) (hc : ∀ j, j < 4 → (w.cell? ⟨b, o + j, none⟩).isSome = true) (hf : ∀ j, j < 4 → w.frozen? ⟨b, o + j, none⟩ = false) :
    (Builtin.clear_ #[22] ty #[.slice (some ⟨b, o, none⟩) 1 c]).run Try.prog w = .ok (.tuple #[]) (w.setCells b o [.int .i64 0, .int .i64 0, .int .i64 0, .int .i64 0]) := by
  have hst := run_storeCells_cells (P := Try.prog) b o [.int .i64 0, .int .i64 0, .int .i64 0, .int .i64 0] 0 w (by simpa using hc) (by simpa using hf) (by intro v hv; simp at hv; subst hv; rfl)
  simp only [Nat.add_zero] at hst
  have hz : (Builtin.zeroCells (Value.agg #[.int .i64 0, .int .i64 0, .int .i64 0, .int .i64 0]).cells 1).toList = [.int .i64 0, .int .i64 0, .int .i64 0, .int .i64 0] := by kernel_rfl
  simp [Builtin.clear_, run_underlying Try.underlying22, hz, hst]
theorem row_cutL {w : World} {base e s g n c i : Nat} {xs : List Value} (h : w.ownsRow base e s (.slice (some ⟨g, 0, none⟩) n c) n xs) (hi : i ≤ n) : w.ownsRow base e s (.slice (some ⟨g, 0, none⟩) i c) i (xs.take (i * s)) := by
  have hl := h.1
  rcases h.2 with ⟨e, -⟩ | ⟨g', cap, cur, e, h1, h2, h3, h4, h5, h6⟩
  · cases e
  · cases e
    have hm : i * s ≤ n * s := Nat.mul_le_mul_right _ hi
    refine ⟨by rw [List.length_take]; omega, .inr ⟨g, c, cur, rfl, h1, h2, by omega, h4, h5, ?_⟩⟩
    rw [← h6, List.take_take, Nat.min_eq_left hm]
theorem setCells4 (w : World) (b o : Nat) (v0 v1 v2 v3 : Value) : w.setCells b o [v0, v1, v2, v3] = (((w.setCell ⟨b, o, none⟩ v0).setCell ⟨b, o + 1, none⟩ v1).setCell ⟨b, o + 2, none⟩ v2).setCell ⟨b, o + 3, none⟩ v3 := rfl
/-- A store behind the row's elements leaves the row. -/
theorem row_tail {w : World} {base e s g n c q : Nat} {xs : List Value} (h : w.ownsRow base e s (.slice (some ⟨g, 0, none⟩) n c) n xs) (hq : n * s ≤ q) (v : Value) : (w.setCell ⟨g, q, none⟩ v).ownsRow base e s (.slice (some ⟨g, 0, none⟩) n c) n xs := by
  rcases h.2 with ⟨e, -⟩ | ⟨g', cap, cur, e, h1, h2, h3, h4, h5, h6⟩
  · cases e
  · cases e
    refine ⟨h.1, .inr ⟨g, c, cur.setIfInBounds q v, rfl, h1, ?_, h3, h4, by simp [h5], ?_⟩⟩
    · exact heap_setCell_same w g q cur _ v h2
    · rw [← h6]
      apply List.ext_getElem?
      intro i
      rw [List.getElem?_take, List.getElem?_take]
      by_cases hi : i < n * s
      · rw [if_pos hi, if_pos hi, Array.getElem?_toList, Array.getElem?_toList, Array.getElem?_setIfInBounds]
        rw [if_neg (by omega)]
      · rw [if_neg hi, if_neg hi]
theorem row_some {w : World} {base e s g n c : Nat} {xs : List Value} (h : w.ownsRow base e s (.slice (some ⟨g, 0, none⟩) n c) n xs) {j : Nat} (hj : j < c * s) : (w.cell? ⟨g, j, none⟩).isSome = true ∧ w.frozen? ⟨g, j, none⟩ = false := by
  rcases h.2 with ⟨e, -⟩ | ⟨g', cap, cur, e, h1, h2, h3, h4, h5, h6⟩
  · cases e
  · cases e
    have hc := Cs.of_heap h2
    exact ⟨by rw [hc.1 j (by omega)]; simp; omega, hc.2.1 j (by omega)⟩
theorem cs_block {w w' : World} {k : Nat} {vs : Array Value} (h : Cs w k vs) (he : w'.heap[k]? = w.heap[k]?) (hs : w.heap.size ≤ w'.heap.size) : Cs w' k vs :=
  ⟨fun j hj => (World.cell?_of_block he).trans (h.1 j hj), fun j hj => (World.frozen?_of_block he).trans (h.2.1 j hj), Nat.lt_of_lt_of_le h.2.2 hs⟩
theorem cs_oth {w : World} {k g o : Nat} {v : Value} {vs : Array Value} (h : Cs w k vs) (hk : k ≠ g) : Cs (w.setCell ⟨g, o, none⟩ v) k vs :=
  cs_block h (Below.heap_setCell w ⟨g, o, none⟩ v k hk) (by simp)
set_option maxRecDepth 100000 in
set_option maxHeartbeats 8000000 in
theorem od_delete (g c i : Nat) (L : List Od) (base : Nat) (w : World) (h : w.ownsRow base 32 4 (.slice (some ⟨g, 0, none⟩) L.length c) L.length (ocs L)) (hi : i < L.length) (h9 : L.length ≤ 100000) (hc : L.length ≤ c) :
    Calls Try.prog 39 #[.slice (some ⟨g, 0, none⟩) L.length c, .int .i64 i, .int .i64 (((i + 1 : Nat)) : Int)] w fun e w' => e = .returned (.slice (some ⟨g, 0, none⟩) (L.length - 1) c) ∧ w'.ownsRow base 32 4 (.slice (some ⟨g, 0, none⟩) (L.length - 1) c) (L.length - 1) (ocs (L.take i ++ L.drop (i + 1))) ∧ Below base w w' ∧ ∀ k vs, k ≠ g → Cs w k vs → Cs w' k vs := by
  obtain ⟨i0, hi0, hz0, hz1, hz2⟩ := info_parts od_info
  obtain ⟨n, hn⟩ : ∃ n, L.length = n := ⟨_, rfl⟩
  have hg : base ≤ g := by
    rcases h.2 with ⟨e, -⟩ | ⟨g', cap, cur, e, h1, -⟩
    · cases e
    · cases e; exact h1
  have htk : (ocs L).take (i * 4) = ocs (L.take i) := by
    have e : ocs L = ocs (L.take i) ++ ocs (L.drop i) := by rw [← ocs_app, List.take_append_drop]
    have hl : (ocs (L.take i)).length = i * 4 := by rw [ocs_len, List.length_take]; omega
    rw [e, ← hl, List.take_left]
  have hdr : ∀ j u, (ocs (L.drop (i + 1)))[j]? = some u → w.cell? ⟨g, (i + 1) * 4 + j, none⟩ = some u := by
    intro j u hu
    have e : ocs L = ocs (L.take (i + 1)) ++ ocs (L.drop (i + 1)) := by rw [← ocs_app, List.take_append_drop]
    have hl : (ocs (L.take (i + 1))).length = (i + 1) * 4 := by rw [ocs_len, List.length_take]; omega
    have := h.cells (g := g) rfl ((i + 1) * 4 + j) u (by rw [e, List.getElem?_append_right (by omega), hl, Nat.add_sub_cancel_left]; exact hu)
    rwa [Go.WideShapes.add_plain, Nat.zero_add] at this
  have hld : (ocs (L.drop (i + 1))).length = (n - (i + 1)) * 4 := by rw [ocs_len, List.length_drop, hn]
  have hcut := row_cutL h (Nat.le_of_lt hi)
  rw [htk] at hcut
  -- the cells to be moved
  obtain ⟨A, hA, hsrc⟩ : ∃ A : Addr, (if c = i + 1 then some (⟨g, 0, none⟩ : Addr) else some ⟨g, (i + 1) * 4, none⟩) = some A ∧ ∀ j u, (ocs (L.drop (i + 1)))[j]? = some u → w.drew.cell? (A.add j) = some u := by
    by_cases e : c = i + 1
    · refine ⟨⟨g, 0, none⟩, by rw [if_pos e], fun j u hu => ?_⟩
      have := (List.getElem?_eq_some_iff.1 hu).1
      omega
    · refine ⟨⟨g, (i + 1) * 4, none⟩, by rw [if_neg e], fun j u hu => ?_⟩
      rw [Go.WideShapes.add_plain]
      exact hdr j u hu
  obtain ⟨w5, q5, ho5, hg5⟩ := run_append_fits (P := Try.prog) w.drew base 22 22 32 i0 4 Try.underlying22 hi0 hz1 g i c _ hcut.drew A (n - (i + 1)) (c - (i + 1)) _ hld hsrc (ocs_one' _) (by omega)
  have hB5 : Below base w w5 := (below_drewN' base w 1).grown hg5 (by
    rcases h.2 with ⟨e, -⟩ | ⟨g', cap, cur, e, h1, h2, -⟩
    · cases e
    · cases e; exact Nat.le_trans h1 (Nat.le_of_lt (Array.getElem?_eq_some_iff.1 h2).1)) (fun k e => by cases e; exact hg)
  have hkp : ∀ m vs, m ≠ g → Cs w m vs → Cs w5 m vs := fun m vs hm hc => cs_block hc (hg5.block m hc.2.2 (fun e => hm (by simpa using e))) hg5.size
  obtain ⟨k, rfl⟩ : ∃ k, n = k + 1 := ⟨n - 1, by omega⟩
  rw [show i + (k + 1 - (i + 1)) = k by omega] at q5 ho5
  rw [show k + 1 - (i + 1) = k - i by omega] at q5
  have hki : i ≤ k := by omega
  have hcell : ∀ j, j < 4 → (w5.cell? ⟨g, k * 4 + j, none⟩).isSome = true ∧ w5.frozen? ⟨g, k * 4 + j, none⟩ = false := fun j hj => row_some ho5 (by omega)
  have hcl : ∀ ty, (Builtin.clear_ #[22] ty #[.slice (some ⟨g, k * 4, none⟩) 1 (c - k)]).run Try.prog w5 = .ok (.tuple #[]) (w5.setCells g (k * 4) [.int .i64 0, .int .i64 0, .int .i64 0, .int .i64 0]) :=
    fun ty => od_clear1 w5 ty g (k * 4) (c - k) (fun j hj => (hcell j hj).1) (fun j hj => (hcell j hj).2)
  have hrow := row_tail (row_tail (row_tail (row_tail ho5 (show k * 4 ≤ k * 4 by omega) (.int .i64 0)) (show k * 4 ≤ k * 4 + 1 by omega) (.int .i64 0)) (show k * 4 ≤ k * 4 + 2 by omega) (.int .i64 0)) (show k * 4 ≤ k * 4 + 3 by omega) (.int .i64 0)
  have hbel := (((hB5.setCell (p := ⟨g, k * 4, none⟩) hg (.int .i64 0)).setCell (p := ⟨g, k * 4 + 1, none⟩) hg (.int .i64 0)).setCell (p := ⟨g, k * 4 + 2, none⟩) hg (.int .i64 0)).setCell (p := ⟨g, k * 4 + 3, none⟩) hg (.int .i64 0)
  rw [← setCells4] at hrow hbel
  rw [hn]
  have HR := Lib.hid (show (w5.setCells g (k * 4) [.int .i64 0, .int .i64 0, .int .i64 0, .int .i64 0]).ownsRow base 32 4 (.slice (some ⟨g, 0, none⟩) k c) k (ocs (L.take i ++ L.drop (i + 1))) by rw [ocs_app]; exact hrow)
  have HBB := Lib.hid hbel
  have HKP := Lib.hid (show ∀ m vs, m ≠ g → Cs w m vs → Cs (w5.setCells g (k * 4) [.int .i64 0, .int .i64 0, .int .i64 0, .int .i64 0]) m vs from fun m vs hm hc => by
    rw [setCells4]
    exact cs_oth (cs_oth (cs_oth (cs_oth (hkp m vs hm hc) hm) hm) hm) hm)
  clear hkp
  have HQ5 := Lib.hid q5
  have HA := Lib.hid hA
  have t1 : (i : Int) ≤ (k : Int) + 1 := by omega
  have t2 : (k : Int) + 1 ≤ c := by omega
  have t3 : (i : Int) + 1 ≤ c := by omega
  have t4 : i ≤ c := by omega
  have t5 : i + 1 ≤ c := by omega
  have t6 : ¬ c = k := by omega
  have t7 : k + 1 ≤ c := by omega
  have e1 : ((i : Int) == (i : Int) + 1) = false := by simp; omega
  have e2 : ¬ ((i : Int) = (i : Int) + 1) := by omega
  have e3 : ((i : Int) + 1).toNat = i + 1 := by omega
  have e4 : ((k : Int) + 1).toNat = k + 1 := by omega
  have e5 : k + 1 - k = 1 := by omega
  have e6 : (0 : Int) ≤ (i : Int) + 1 := by omega
  have e7 : (i : Int) + 1 ≤ (k : Int) + 1 := by omega
  have e8 : (0 : Int) ≤ (k : Int) := by omega
  have e9 : (k : Int) ≤ (k : Int) + 1 := by omega
  have e10 : k + 1 - (i + 1) = k - i := by omega
  have e11 : ((i + 1 : Nat) : Int) = (i : Int) + 1 := by omega
  clear hcut hsrc hdr hld htk ho5 hg5 hB5 hrow hbel hcell h q5 hA hn hi h9 hc
  go_enter Try.func39, Try.ntmps39
  go_wp2_with fail
  go_region_law (refine step_app rfl (.tmp 22) (.tmp 25) 22 rfl _ _ (.slice (some ⟨g, 0, none⟩) k c) (by simp [Act.eval, Act.put]) (by simp [Act.eval, Act.put, HA.out]) HQ5.out ?_)
  all_goals go_wp2_with fail
  all_goals go_ret
  all_goals exact ⟨by first | rfl | simp_all, by first | exact HR.out | (have hci : c = i + 1 := (by assumption); have hq := HR.out; rw [hci] at hq; exact hq), HBB.out, HKP.out⟩
end Go.Proofs.Ytkamkkjijjkfdaa
