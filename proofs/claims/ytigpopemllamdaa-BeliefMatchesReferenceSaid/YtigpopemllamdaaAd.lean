/- Beliefs: whether an order fits; those that fit. -/
import Derived.Test.YtigpopemllamdaaAc
namespace Go.Proofs.Ytigpopemllamdaa
open Go.RowKit

theorem cell_four_new (W : World) (a b c d : Value) (T : TypeId) (n : Nat) (hn : n = W.heap.size) : ∀ j u, [a, b, c, d][j]? = some u → (W.alloc (.cells #[a, b, c, d] T)).cell? ((⟨n, 0, none⟩ : Addr).add j) = some u := by
  subst hn
  intro j u hu
  rw [Go.WideShapes.add_plain, World.cell?_alloc_new]
  simpa using hu
set_option maxRecDepth 100000 in
set_option maxHeartbeats 8000000 in
theorem contains_f (v : Value) (L : List Od) (n : Nat) (caps : Array Value) (p : Od → Bool) (w : World) (h : OdsAt w v L) (hf : Fits n caps p w) (heg : ∀ args w, (callFunc n args).run Try.prog w = .ok (.enter n args) w) :
    Calls Try.prog 53 #[v, .func (.func n) #[] caps] w fun e w' => e = .returned (.bool (L.any p)) ∧ Below w.heap.size w w' := by
  have HL := Lib.hid h
  have HF := Lib.hid hf
  have HE := Lib.hid heg
  have HP := Lib.hid (fsP_ge (p := p) (L := L))
  clear hf h heg
  go_enter Try.func53, Try.ntmps53
  go_wp2_with fail
  refine (index_any v L n caps p _ HL.out HF.out HE.out).mono ?_
  rintro e w2 ⟨rfl, b2⟩
  have HB := Lib.hid b2
  clear b2
  go_wp2
  go_ret
  exact ⟨by rw [← HP.out]; rfl, HB.out⟩
theorem flt_step (p : Od → Bool) {L : List Od} {k : Nat} (h : k < L.length) : (L.take (k + 1)).filter p = (L.take k).filter p ++ (if p (L.getD k zO) = true then [L.getD k zO] else []) := by
  have e : L.take (k + 1) = L.take k ++ [L.getD k zO] := by rw [List.take_add_one, od_get h]; rfl
  rw [e, List.filter_append]
  by_cases hp : p (L.getD k zO) = true
  · rw [if_pos hp, List.filter_cons_of_pos hp]; rfl
  · rw [if_neg hp, List.filter_cons_of_neg hp]; rfl
theorem flt_len (p : Od → Bool) (L : List Od) (k : Nat) : ((L.take k).filter p).length ≤ L.length := Nat.le_trans (List.length_filter_le _ _) (by rw [List.length_take]; omega)
set_option maxRecDepth 100000 in
set_option maxHeartbeats 8000000 in
theorem those_any (v : Value) (L : List Od) (n : Nat) (caps : Array Value) (p : Od → Bool) (w : World) (h : OdsAt w v L) (hf : Fits n caps p w) (h9 : L.length ≤ 100000) (heg : ∀ args w, (callFunc n args).run Try.prog w = .ok (.enter n args) w) :
    Calls Try.prog 61 #[v, .func (.func n) #[] caps] w fun e w' => ∃ u, e = .returned u ∧ w'.ownsRow w.heap.size 27 4 u (L.filter p).length (ocs (L.filter p)) ∧ Below w.heap.size w w' := by
  have HL := Lib.hid h
  have HF := Lib.hid hf
  obtain ⟨sa, sc, rfl, -, hm, -⟩ := h
  unfold maxLen at hm
  clear hf
  obtain ⟨i0, hi, hz0, hz1, hz2⟩ := info_parts od_info
  go_enter Try.func61, Try.ntmps61
  go_wp2_with fail
  go_loopw [5, 10] (fun v i wr => ∃ k : Nat, k ≤ L.length ∧ i = .int .i64 k ∧ Hid (wr.ownsRow w.heap.size 27 4 v ((L.take k).filter p).length (ocs ((L.take k).filter p))) ∧ Hid (Below w.heap.size w wr)) (fun _ i _ => L.length - (intOf i).toNat)
  case atStart => exact ⟨0, by omega, rfl, Lib.hid (World.ownsRow_nil w w.heap.size 27 4), Lib.hid (Below.refl _ _)⟩
  case round =>
    obtain ⟨k, hk, rfl, HR, HB⟩ := hrel
    have hsz := HB.out.size
    by_cases hlt : k < L.length
    · obtain ⟨a1, c1, hv1, -, -, hcs1⟩ := HL.out.step HB.out
      obtain ⟨rfl, rfl⟩ : sa = a1 ∧ sc = c1 := by simpa using hv1
      obtain ⟨b1, o1, rfl, hx1⟩ := hcs1 (by intro e; rw [e] at hlt; simp at hlt)
      obtain ⟨y0, y1, y2, y3⟩ := hx1 k _ (od_get hlt)
      have yz : b1 < wr.heap.size := World.block_lt_of_cell? _ _ y0
      have t1 : (k : Int) < (L.length : Int) := by omega
      have HT := Lib.hid (flt_step p hlt)
      have HY := Lib.hid (flt_len p L k)
      clear hcs1 hx1 hv1
      generalize L.getD k zO = x at *
      have HO := Lib.hid (Cs.new wr wr.heap.size #[.int .i64 x.a, .int .i64 x.b, .int .i64 x.c, .int .i64 x.d] 27 rfl)
      have HB1 := Lib.hid (HB.out.alloc hsz (.cells #[.int .i64 x.a, .int .i64 x.b, .int .i64 x.c, .int .i64 x.d] 27))
      have HR1 := Lib.hid (HR.out.alloc (.cells #[.int .i64 x.a, .int .i64 x.b, .int .i64 x.c, .int .i64 x.d] 27))
      have o0 := HO.out.c 0 rfl
      have o1 := HO.out.c 1 rfl
      have o2 := HO.out.c 2 rfl
      have o3 := HO.out.c 3 rfl
      have oz := HO.out.2.2
      clear HR
      go_wp2_with fail
      refine (HF.out x _ HB1.out).mono ?_
      rintro e w2 ⟨rfl, b2⟩
      have HO2 := Lib.hid (HO.out.step b2)
      have HB2 := Lib.hid (keep2 b2 HB1.out)
      have HR2 := Lib.hid (row_step HR1.out b2)
      clear b2 y0 y1 y2 y3 yz o0 o1 o2 o3 oz HO HB1 HR1
      have o0 := HO2.out.c 0 rfl
      have o1 := HO2.out.c 1 rfl
      have o2 := HO2.out.c 2 rfl
      have o3 := HO2.out.c 3 rfl
      have oz := HO2.out.2.2
      have hsz2 := HB2.out.size
      cases he : p x with
      | false =>
        rw [he] at HT
        clear he
        go_wp2
        go_roundw
        case rel => exact ⟨k + 1, by omega, by go_num, by rw [HT.out]; simpa using HR2, HB2⟩
        case measure => simp [intOf]; omega
      | true =>
        rw [he] at HT
        clear he
        have HY2 := HY.out
        go_wp2_with (at_builtin; refine wpList_append_own _ rfl _ _ 23 rfl w.heap.size 27 i0 _ 4 32 Try.underlying23 hi hz0 hz1 hz2 rfl (by decide) _ _ _ rfl (HR2.out.alloc _) ⟨w2.heap.size, 0, none⟩ 1 1 [.int .i64 x.a, .int .i64 x.b, .int .i64 x.c, .int .i64 x.d] rfl rfl (cell_four_new _ _ _ _ _ _ _ (by simp)) (by simp [Value.oneCell']) (by unfold maxLen; omega) (by omega) (by simp; omega) ?_; intro v' w1 hown hgrow _; have HR3 := Lib.hid hown; have HB3 := Lib.hid (below_own (Nat.le_refl _) HB2.out HR2.out hgrow); clear hown hgrow)
        go_roundw
        case rel => exact ⟨k + 1, by omega, by go_num, by rw [HT.out]; simp only [if_true, List.length_append, ocs_app, ocs_one]; exact HR3, HB3⟩
        case measure => simp [intOf]; omega
    · obtain rfl : k = L.length := by omega
      have HQ := Lib.hid (show wr.ownsRow w.heap.size 27 4 _ (L.filter p).length (ocs (L.filter p)) by have h := HR.out; rw [List.take_length] at h; exact h)
      go_wp2
      go_ret
      exact ⟨_, rfl, HQ.out, HB.out⟩
end Go.Proofs.Ytigpopemllamdaa
