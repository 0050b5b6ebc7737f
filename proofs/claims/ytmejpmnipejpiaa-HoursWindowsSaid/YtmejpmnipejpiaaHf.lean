/- Quiet hours: 'at', 'Quiet', the iterator's making. -/
import Derived.Test.YtmejpmnipejpiaaHe
namespace Go.Proofs.Ytmejpmnipejpiaa
open Go.RowKit

set_option maxRecDepth 100000 in
set_option maxHeartbeats 4000000 in
theorem at_any (B : Nat) (f : Nat → Bool) (m : Int) (w : World) (h : BoxA w B f) (hm1 : -2000000000 ≤ m) (hm2 : m ≤ 2000000000) : Calls Try.prog 27 #[.pointer (some ⟨B, 0, none⟩), .int .i64 m] w fun e w' => e = .returned (.bool (f (m % 1440).toNat)) ∧ w = w' := by
  obtain ⟨x, hx⟩ : ∃ x : Nat, m % 1440 = x := ⟨(m % 1440).toNat, by omega⟩
  obtain ⟨y, hy⟩ : ∃ y, m.tmod 1440 = y := ⟨_, rfl⟩
  have hd := day_of m hm1 hm2
  have hb := day_bd m hm1 hm2
  rw [hy] at hd hb
  rw [hx] at hd ⊢
  have q1 : wrap64 (m.tmod 1440) = y := by rw [hy]; exact IntWalk.wrap64_in _ (by omega)
  have q2 : wrap64 (y + 1440) = y + 1440 := IntWalk.wrap64_in _ (by omega)
  have q3 : wrap64 ((y + 1440).tmod 1440) = x := by rw [hd]; exact IntWalk.wrap64_in _ (by omega)
  have hx0 : x < 1440 := by omega
  have x0 := h.cell hx0
  have x1 := h.lt
  clear hx h
  rw [show ((x : Int)).toNat = x from rfl]
  go_enter Try.func27, Try.ntmps27
  go_wp2
  go_ret
  exact ⟨rfl, rfl⟩
theorem qF_day (l : List (Int × Int)) (m : Int) : qF l l.length (m % 1440).toNat = Qm l m := by
  unfold qF Qm
  rw [List.take_of_length_le (Nat.le_refl _)]
  congr 1
  omega
theorem okL_parts {l : List (Int × Int)} (h : okL l = true) : l.length ≤ 8 ∧ ∀ j, j < l.length → okW (l.getD j (0, 0)) = true := by
  unfold okL at h
  rw [Bool.and_eq_true, decide_eq_true_iff, List.all_eq_true] at h
  exact ⟨h.1, fun j hj => by rw [show l.getD j (0, 0) = l[j] by simp [hj]]; exact h.2 _ (List.getElem_mem hj)⟩
theorem inR_q (n : Int) (b : Bool) (hb : inR n = b) (w : World) : Calls Try.prog 21 #[.int .i64 n] w fun e w' => e = .returned (.bool b) ∧ w = w' := by
  rw [← hb]; exact inR_any n w
theorem rinR_q (n : Int) (b : Bool) (hb : inR n = b) (w : World) : Calls Try.prog 24 #[.int .i64 n] w fun e w' => e = .returned (.bool b) ∧ w = w' := by
  rw [← hb]; exact rinR_any n w
theorem valid_q (v : Value) (l : List (Int × Int)) (w : World) (h : WinsAt w v l) (b : Bool) (hb : okL l = b) : Calls Try.prog 12 #[v] w fun e w' => e = .returned (.bool b) ∧ Below w.heap.size w w' := by
  rw [← hb]; exact valid_any v l w h
theorem rvalid_q (v : Value) (l : List (Int × Int)) (w : World) (h : WinsAt w v l) (b : Bool) (hb : okL l = b) : Calls Try.prog 13 #[v] w fun e w' => e = .returned (.bool b) ∧ Below w.heap.size w w' := by
  rw [← hb]; exact rvalid_any v l w h
set_option maxRecDepth 100000 in
set_option maxHeartbeats 4000000 in
theorem quiet_any (v : Value) (l : List (Int × Int)) (m : Int) (w : World) (h : WinsAt w v l) : Calls Try.prog 14 #[v, .int .i64 m] w fun e w' => e = .returned (.bool (qui l m)) ∧ Below w.heap.size w w' := by
  cases hv : okL l
  · have HV := Lib.hid hv
    have HR := Lib.hid (show qui l m = false by unfold qui; rw [hv]; rfl)
    clear hv
    go_enter Try.func14, Try.ntmps14
    go_wp2_with fail
    refine (valid_q v l _ h _ HV.out).mono ?_
    rintro e w1 ⟨rfl, b1⟩
    have HB1 := Lib.hid b1
    clear b1
    go_wp2
    go_ret
    exact ⟨ret_bool (a := false) (by rw [HR.out]), HB1.out⟩
  · have HV := Lib.hid hv
    cases hi : inR m
    · have HI := Lib.hid hi
      have HR := Lib.hid (show qui l m = false by unfold qui; rw [hv, hi]; rfl)
      clear hv hi
      go_enter Try.func14, Try.ntmps14
      go_wp2_with fail
      refine (valid_q v l _ h _ HV.out).mono ?_
      rintro e w1 ⟨rfl, b1⟩
      have HB1 := Lib.hid b1
      clear b1
      go_wp2_with fail
      refine (inR_q m _ HI.out _).mono ?_
      rintro e w' ⟨rfl, rfl⟩
      go_wp2
      go_ret
      exact ⟨ret_bool (a := false) (by rw [HR.out]), HB1.out⟩
    · have HI := Lib.hid hi
      have HR := Lib.hid (show qui l m = Qm l m by unfold qui; rw [hv, hi]; rfl)
      have HM := Lib.hid (inR_iff.1 hi)
      have HO := Lib.hid (okL_parts hv)
      clear hv hi
      go_enter Try.func14, Try.ntmps14
      go_wp2_with fail
      refine (valid_q v l _ h _ HV.out).mono ?_
      rintro e w1 ⟨rfl, b1⟩
      have HL1 := Lib.hid (h.step b1)
      have HB1 := Lib.hid b1
      clear b1 h
      go_wp2_with fail
      refine (inR_q m _ HI.out _).mono ?_
      rintro e w' ⟨rfl, rfl⟩
      go_wp2_with fail
      refine (quietMin_any v l _ HL1.out HO.out.2 HO.out.1).mono ?_
      rintro e w2 ⟨rfl, b2⟩
      have HB2 := Lib.hid (keep2 b2 HB1.out)
      have HB3 := Lib.hid (HB2.out.alloc HB2.out.size (.cells (bArr (qF l l.length)) 45))
      have HA3 := Lib.hid (BoxA.new w2 (qF l l.length) rfl)
      clear b2
      go_wp2_with (first | (refine wpList_alloc45 rfl rfl _ rfl ?_) | (refine wpList_storeN rfl _ _ rfl _ rfl _ _ rfl w2 rfl rfl ?_))
      refine (at_any _ _ m _ HA3.out (by have := HM.out; omega) (by have := HM.out; omega)).mono ?_
      rintro e w' ⟨rfl, rfl⟩
      go_wp2
      go_ret
      exact ⟨ret_bool (by rw [HR.out, qF_day]), HB3.out⟩
theorem changes_any (B : Nat) (m n : Int) (w : World) : Calls Try.prog 23 #[.pointer (some ⟨B, 0, none⟩), .int .i64 m, .int .i64 n] w fun e w' =>
    e = .returned (.func (.func 29) #[] #[.pointer (some ⟨w.heap.size, 0, none⟩), .pointer (some ⟨w.heap.size + 1, 0, none⟩), .pointer (some ⟨w.heap.size + 1 + 1, 0, none⟩)]) ∧ w' = ((w.alloc (.cells #[.pointer (some ⟨B, 0, none⟩)] 51)).alloc (.cells #[.int .i64 m] 3)).alloc (.cells #[.int .i64 n] 3) := by
  go_enter Try.func23, Try.ntmps23
  go_wp2
  go_ret
  exact ⟨rfl, rfl⟩
end Go.Proofs.Ytmejpmnipejpiaa
