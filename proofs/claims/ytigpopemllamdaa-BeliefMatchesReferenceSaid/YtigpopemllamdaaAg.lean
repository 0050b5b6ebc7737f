/- Beliefs: the values of orders. -/
import Derived.Test.YtigpopemllamdaaAf
namespace Go.Proofs.Ytigpopemllamdaa
open Go.RowKit

/-- The values of orders, in increasing order, each once. -/
def vof (L : List Od) : List Int := Lib.compact ((L.map Od.d).mergeSort fun x y => decide (x ≤ y))
theorem vof_len (L : List Od) : (vof L).length ≤ L.length := by
  unfold vof
  exact Nat.le_trans (compact_len _) (by simp)
theorem cell_one_new (W : World) (a : Value) (T : TypeId) (n : Nat) (hn : n = W.heap.size) : ∀ j u, [a][j]? = some u → (W.alloc (.cells #[a] T)).cell? ((⟨n, 0, none⟩ : Addr).add j) = some u := by
  subst hn
  intro j u hu
  rw [Go.WideShapes.add_plain, World.cell?_alloc_new]
  simpa using hu
theorem ds_step {L : List Od} {k : Nat} (h : k < L.length) : (L.take (k + 1)).map Od.d = (L.take k).map Od.d ++ [(L.getD k zO).d] := by
  have e : L.take (k + 1) = L.take k ++ [L.getD k zO] := by rw [List.take_add_one, od_get h]; rfl
  rw [e, List.map_append]; rfl
set_option maxRecDepth 100000 in
set_option maxHeartbeats 8000000 in
theorem valuesOf_any (v : Value) (L : List Od) (w : World) (h : OdsAt w v L) (h9 : L.length ≤ 100000) :
    Calls Try.prog 67 #[v] w fun e w' => ∃ u, e = .returned u ∧ w'.ownsRow w.heap.size 3 1 u (vof L).length ((vof L).map (Value.int .i64)) ∧ Below w.heap.size w w' := by
  have HL := Lib.hid h
  obtain ⟨sa, sc, rfl, -, hm, -⟩ := h
  unfold maxLen at hm
  obtain ⟨i0, hi, hz0, hz1, hz2⟩ := info_parts in_info
  go_enter Try.func67, Try.ntmps67
  go_wp2_with fail
  go_loopw [3, 8] (fun v i wr => ∃ k : Nat, k ≤ L.length ∧ i = .int .i64 k ∧ Hid (wr.ownsRow w.heap.size 3 1 v k (((L.take k).map Od.d).map (Value.int .i64))) ∧ Hid (Below w.heap.size w wr)) (fun _ i _ => L.length - (intOf i).toNat)
  case atStart => exact ⟨0, by omega, rfl, Lib.hid (World.ownsRow_nil w w.heap.size 3 1), Lib.hid (Below.refl _ _)⟩
  case round =>
    obtain ⟨k, hk, rfl, HR, HB⟩ := hrel
    have hsz := HB.out.size
    by_cases hlt : k < L.length
    · obtain ⟨a1, c1, hv1, -, -, hcs1⟩ := HL.out.step HB.out
      obtain ⟨rfl, rfl⟩ : sa = a1 ∧ sc = c1 := by simpa using hv1
      obtain ⟨b1, o1, rfl, hx1⟩ := hcs1 (by intro e; rw [e] at hlt; simp at hlt)
      obtain ⟨y0, y1, y2, y3⟩ := hx1 k _ (od_get hlt)
      have yz : b1 < wr.heap.size := World.block_lt_of_cell? _ _ y0
      have t1 : (k : Int) < (L.length : Int) := by omega
      have HT := Lib.hid (ds_step hlt)
      clear hcs1 hx1 hv1
      generalize L.getD k zO = x at *
      have HB1 := Lib.hid (HB.out.alloc hsz (.cells #[.int .i64 x.a, .int .i64 x.b, .int .i64 x.c, .int .i64 x.d] 27))
      have HR1 := Lib.hid (HR.out.alloc (.cells #[.int .i64 x.a, .int .i64 x.b, .int .i64 x.c, .int .i64 x.d] 27))
      clear HR
      go_wp2_with (at_builtin; refine wpList_append_own _ rfl _ _ 22 rfl w.heap.size 3 i0 _ 1 8 Try.underlying22 hi hz0 hz1 hz2 rfl (by decide) _ _ _ rfl (HR1.out.alloc _) ⟨wr.heap.size + 1, 0, none⟩ 1 1 [.int .i64 x.d] rfl rfl (cell_one_new _ _ _ _ (by simp)) (by simp [Value.oneCell']) (by unfold maxLen; omega) (by omega) (by simp; omega) ?_; intro v' w1 hown hgrow _; have HR2 := Lib.hid hown; have HB2 := Lib.hid (below_own (Nat.le_refl _) HB1.out HR1.out hgrow); clear hown hgrow)
      go_roundw
      case rel => exact ⟨k + 1, by omega, by go_num, by rw [HT.out, List.map_append]; exact HR2, HB2⟩
      case measure => simp [intOf]; omega
    · obtain rfl : k = L.length := by omega
      have HQ := Lib.hid (show wr.ownsRow w.heap.size 3 1 _ (L.map Od.d).length ((L.map Od.d).map (Value.int .i64)) by have h := HR.out; rw [List.take_length] at h; rw [List.length_map]; exact h)
      clear HR
      go_wp2_with fail
      refine (sort_own _ _ _ _ HQ.out (by simpa using h9)).mono ?_
      rintro e w2 ⟨rfl, q2, b2⟩
      have HQ2 := Lib.hid (show w2.ownsRow w.heap.size 3 1 _ ((L.map Od.d).mergeSort fun x y => decide (x ≤ y)).length (((L.map Od.d).mergeSort fun x y => decide (x ≤ y)).map (Value.int .i64)) by rw [List.length_mergeSort]; exact q2)
      have HB2 := Lib.hid (HB.out.trans b2)
      clear q2 b2 HQ
      go_wp2_with fail
      refine (compact_own _ _ _ _ HQ2.out (by simpa using h9)).mono ?_
      rintro e w3 ⟨u, rfl, q3, b3⟩
      have HQ3 := Lib.hid q3
      have HB3 := Lib.hid (HB2.out.trans b3)
      clear q3 b3 HQ2
      go_wp2
      go_ret
      exact ⟨_, rfl, HQ3.out, HB3.out⟩
end Go.Proofs.Ytigpopemllamdaa
