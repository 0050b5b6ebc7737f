/- Updates: a loop over an iterator that writes two boxes of its own; the form of a path. -/
import Derived.Test.YtiiehoeoaalbmaaUj
namespace Go.Proofs.Ytiiehoeoaalbmaa
open Go.RowKit
attribute [local go_sem] Oper.semAt_some

theorem BoxN.set {w : World} {b : Nat} {t : TypeId} {vs : Array Value} (h : BoxN w b vs t) (j : Nat) (v : Value) {vs' : Array Value} (hvs : vs.setIfInBounds j v = vs') : BoxN (w.setCell ⟨b, j, none⟩ v) b vs' t := by
  subst hvs
  have h' : w.heap[b]? = some (.cells vs t (0, 0)) := h
  have hl := h.lt
  have h2 : w.heap[b] = .cells vs t (0, 0) := by simpa [Array.getElem?_eq_getElem hl] using h'
  show (w.heap.modify b _)[b]? = _
  rw [Array.getElem?_eq_getElem (by simpa using hl), Array.getElem_modify_self, h2]
  rfl
theorem BoxN.frz {w : World} {b : Nat} {t : TypeId} {vs : Array Value} (h : BoxN w b vs t) (j : Nat) : w.frozen? ⟨b, j, none⟩ = false := by
  have h' : w.heap[b]? = some (.cells vs t (0, 0)) := h
  simp [World.frozen?, h']
def cntOf (w : World) (B : Nat) : Nat := match w.cell? ⟨B, 0, none⟩ with
  | some v => (intOf v).toNat
  | none => 0
theorem cnt_box {w : World} {B : Nat} {z : Int} {t : TypeId} (h : BoxN w B #[.int .i64 z] t) : cntOf w B = z.toNat := by
  unfold cntOf
  rw [h.cell 0]
  rfl
set_option maxRecDepth 100000 in
set_option maxHeartbeats 8000000 in
theorem iterF (i c : Nat) (hc : c ≤ 64) (hi : i ≤ 64) (n : Nat) (hn : 1 ≤ n) (lp B1 B2 : Nat) (hne : B1 ≠ B2) (J Jx : List Bool → World → Prop) (W : World) (hA : AbidesFrom W.heap.size J)
    (hS : ∀ s A k v, (k = B1 ∨ k = B2) → J s A → J s (A.setCell ⟨k, 0, none⟩ v))
    (hY : ∀ (pre : List Bool) (x : Bool) (W1 : World), J pre W1 → (∃ r, fmL i c = pre ++ x :: r) → YieldAt Fence.wide (n - 1) Try.prog lp #[.bool x] W1 fun e W' =>
      (e = .returned (.bool true) ∧ J (pre ++ [x]) W' ∧ SameB B1 W1 W' ∧ SameB B2 W1 W') ∨ (e = .returned (.bool false) ∧ Jx (pre ++ [x]) W'))
    (hx1 : BoxN W B1 #[.int .i64 c] 3) (hx2 : BoxN W B2 #[.int .i64 i] 3) (h0 : J [] W) :
    CallsIn Fence.wide n Try.prog 78 #[.func (.yield lp) #[] #[], .pointer (some ⟨B1, 0, none⟩), .pointer (some ⟨B2, 0, none⟩)] W fun e W' => (∃ v, e = .returned v) ∧ (J (fmL i c) W' ∨ ∃ pre, (∃ r, fmL i c = pre ++ r) ∧ Jx pre W') := by
  have HY := Lib.hid hY
  have HS := Lib.hid hS
  have HNE := Lib.hid hne
  have HJ0 := Lib.hid (show ∀ s A B, J s A → Below A.heap.size A B → J s B from fun s A B h hb => hA s A B none h (grown_of_below hb) (by simp))
  have HJ := Lib.hid h0
  have H1 := Lib.hid hx1
  have H2 := Lib.hid hx2
  have HF := Lib.hid (show fmL i c = [] ++ fmF c i c from rfl)
  obtain ⟨LF, hLF⟩ : ∃ z9, fmL i c = z9 := ⟨_, rfl⟩
  rw [hLF] at HY HF ⊢
  have HC := Lib.hid hc
  have HI := Lib.hid hi
  clear hY hA hS hx1 hx2 h0 hLF hc hi hne
  refine callsIn_of_wp Try.func78 rfl trivial ?_ rfl
  simp only [Try.ntmps78, List.size_toArray, List.length_cons, List.length_nil, Nat.reduceAdd, Nat.reduceSub, Array.replicate_succ, Array.replicate_zero, List.push_toArray, List.append_toArray, List.nil_append, List.cons_append]
  gi_wp2_with fail
  gi_loopw [4] (fun _ wr => ∃ (pre : List Bool) (ik ck f : Nat), ck ≤ f ∧ ck ≤ 64 ∧ ik ≤ 64 ∧ Hid (LF = pre ++ fmF f ik ck) ∧ Hid (BoxN wr B1 #[.int .i64 (ck : Int)] 3) ∧ Hid (BoxN wr B2 #[.int .i64 (ik : Int)] 3) ∧ Hid (J pre wr)) (fun _ wr => cntOf wr B1)
  case atStart => exact ⟨[], i, c, c, by omega, HC.out, HI.out, HF, H1, H2, HJ⟩
  case round =>
    clear HF H1 H2 HJ
    obtain ⟨pre, ik, ck, f, hcf, hc64, hi64, HF, H1, H2, HJ⟩ := hrel
    have c1 := (H1.out.cell 0).trans (rfl : _ = some (Value.int .i64 (ck : Int)))
    have c2 := (H2.out.cell 0).trans (rfl : _ = some (Value.int .i64 (ik : Int)))
    have l1 := H1.out.lt
    have l2 := H2.out.lt
    have HC0 := Lib.hid (show cntOf wr B1 = ck by rw [cnt_box H1.out]; rfl)
    by_cases hlt : 1 < ck
    · have HST := Lib.hid (fmF_step (i := ik) hlt hcf)
      have t1 : (1 : Int) < (ck : Int) := by omega
      by_cases e1 : ik = ck - 1
      · by_cases e2 : ck % 2 = 1
        · have HXB := Lib.hid (show LF = pre ++ true :: fmF (f - 1) (ik / 2) ((ck + 1) / 2) by rw [HF.out, HST.out]; congr 2; rw [decide_eq_true e1, decide_eq_true e2]; rfl)
          have u1 : ((ik : Int) == (ck : Int) - 1) = true := by rw [beq_iff_eq]; omega
          have u2 : ((ck : Int) % 2 == 1) = true := by rw [beq_iff_eq]; omega
          clear e2
          clear e1
          have HZ1 := Lib.hid (show ((ik / 2 : Nat) : Int) = (ik : Int) / 2 by omega)
          have HZ2 := Lib.hid (show (((ck + 1) / 2 : Nat) : Int) = ((ck : Int) + 1) / 2 by omega)
          have HZ3 := Lib.hid (show (ck + 1) / 2 < ck ∧ (ck + 1) / 2 ≤ 64 ∧ ik / 2 ≤ 64 ∧ (ck + 1) / 2 ≤ f - 1 by omega)
          gi_wp2_with fail
          obtain ⟨fn, tmps, assign, body, hy, hRR⟩ := HY.out pre true _ HJ.out ⟨_, HXB.out⟩
          rw [hy]
          gi_wp2
          refine hRR.mono ?_
          rintro e W4 (⟨rfl, hJ4, hs1, hs2⟩ | ⟨rfl, hJx4⟩)
          · have HJ4 := Lib.hid hJ4
            have K1 := Lib.hid (H1.out.same hs1)
            have K2 := Lib.hid (H2.out.same hs2)
            clear hJ4 hs1 hs2 hRR hy H1 H2 HJ c1 c2 l1 l2 u1 u2 t1
            have c1 := (K1.out.cell 0).trans (rfl : _ = some (Value.int .i64 (ck : Int)))
            have c2 := (K2.out.cell 0).trans (rfl : _ = some (Value.int .i64 (ik : Int)))
            have l1 := K1.out.lt
            have l2 := K2.out.lt
            have f1 := K1.out.frz 0
            have f2 := K2.out.frz 0
            have n1 : ¬ B1 = B2 := HNE.out
            have n2 : ¬ B2 = B1 := fun e => HNE.out e.symm
            have M2 := Lib.hid ((K2.out.set 0 (.int .i64 ((ik : Int) / 2)) (vs' := #[.int .i64 ((ik : Int) / 2)]) rfl).away (B := B1) n2 0 (.int .i64 (((ck : Int) + 1) / 2)))
            have M1 := Lib.hid ((K1.out.away (B := B2) n1 0 (.int .i64 ((ik : Int) / 2))).set 0 (.int .i64 (((ck : Int) + 1) / 2)) (vs' := #[.int .i64 (((ck : Int) + 1) / 2)]) rfl)
            have MJ := Lib.hid (HS.out _ _ B1 (.int .i64 (((ck : Int) + 1) / 2)) (.inl rfl) (HS.out _ _ B2 (.int .i64 ((ik : Int) / 2)) (.inr rfl) HJ4.out))
            gi_wp2
            go_roundw
            case rel => exact ⟨pre ++ [true], ik / 2, (ck + 1) / 2, f - 1, HZ3.out.2.2.2, HZ3.out.2.1, HZ3.out.2.2.1, Lib.hid (by rw [HXB.out]; simp), Lib.hid (by rw [HZ2.out]; exact M1.out), Lib.hid (by rw [HZ1.out]; exact M2.out), MJ⟩
            case measure => rw [cnt_box M1.out, HC0.out, ← HZ2.out, Int.toNat_natCast]; exact HZ3.out.1
          · gi_wp2
            refine bodyPost_ret (results_none rfl _ _ _) rfl ?_
            exact ⟨⟨_, rfl⟩, .inr ⟨_, ⟨fmF (f - 1) (ik / 2) ((ck + 1) / 2), by rw [HXB.out]; simp⟩, hJx4⟩⟩
        · have HXB := Lib.hid (show LF = pre ++ false :: fmF (f - 1) (ik / 2) ((ck + 1) / 2) by rw [HF.out, HST.out]; congr 2; rw [decide_eq_false e2, Bool.and_false])
          have u1 : ((ik : Int) == (ck : Int) - 1) = true := by rw [beq_iff_eq]; omega
          have u2 : ((ck : Int) % 2 == 1) = false := by rw [beq_eq_false_iff_ne]; omega
          clear e2
          clear e1
          have HZ1 := Lib.hid (show ((ik / 2 : Nat) : Int) = (ik : Int) / 2 by omega)
          have HZ2 := Lib.hid (show (((ck + 1) / 2 : Nat) : Int) = ((ck : Int) + 1) / 2 by omega)
          have HZ3 := Lib.hid (show (ck + 1) / 2 < ck ∧ (ck + 1) / 2 ≤ 64 ∧ ik / 2 ≤ 64 ∧ (ck + 1) / 2 ≤ f - 1 by omega)
          gi_wp2_with fail
          obtain ⟨fn, tmps, assign, body, hy, hRR⟩ := HY.out pre false _ HJ.out ⟨_, HXB.out⟩
          rw [hy]
          gi_wp2
          refine hRR.mono ?_
          rintro e W4 (⟨rfl, hJ4, hs1, hs2⟩ | ⟨rfl, hJx4⟩)
          · have HJ4 := Lib.hid hJ4
            have K1 := Lib.hid (H1.out.same hs1)
            have K2 := Lib.hid (H2.out.same hs2)
            clear hJ4 hs1 hs2 hRR hy H1 H2 HJ c1 c2 l1 l2 u1 u2 t1
            have c1 := (K1.out.cell 0).trans (rfl : _ = some (Value.int .i64 (ck : Int)))
            have c2 := (K2.out.cell 0).trans (rfl : _ = some (Value.int .i64 (ik : Int)))
            have l1 := K1.out.lt
            have l2 := K2.out.lt
            have f1 := K1.out.frz 0
            have f2 := K2.out.frz 0
            have n1 : ¬ B1 = B2 := HNE.out
            have n2 : ¬ B2 = B1 := fun e => HNE.out e.symm
            have M2 := Lib.hid ((K2.out.set 0 (.int .i64 ((ik : Int) / 2)) (vs' := #[.int .i64 ((ik : Int) / 2)]) rfl).away (B := B1) n2 0 (.int .i64 (((ck : Int) + 1) / 2)))
            have M1 := Lib.hid ((K1.out.away (B := B2) n1 0 (.int .i64 ((ik : Int) / 2))).set 0 (.int .i64 (((ck : Int) + 1) / 2)) (vs' := #[.int .i64 (((ck : Int) + 1) / 2)]) rfl)
            have MJ := Lib.hid (HS.out _ _ B1 (.int .i64 (((ck : Int) + 1) / 2)) (.inl rfl) (HS.out _ _ B2 (.int .i64 ((ik : Int) / 2)) (.inr rfl) HJ4.out))
            gi_wp2
            go_roundw
            case rel => exact ⟨pre ++ [false], ik / 2, (ck + 1) / 2, f - 1, HZ3.out.2.2.2, HZ3.out.2.1, HZ3.out.2.2.1, Lib.hid (by rw [HXB.out]; simp), Lib.hid (by rw [HZ2.out]; exact M1.out), Lib.hid (by rw [HZ1.out]; exact M2.out), MJ⟩
            case measure => rw [cnt_box M1.out, HC0.out, ← HZ2.out, Int.toNat_natCast]; exact HZ3.out.1
          · gi_wp2
            refine bodyPost_ret (results_none rfl _ _ _) rfl ?_
            exact ⟨⟨_, rfl⟩, .inr ⟨_, ⟨fmF (f - 1) (ik / 2) ((ck + 1) / 2), by rw [HXB.out]; simp⟩, hJx4⟩⟩
      · have HXB := Lib.hid (show LF = pre ++ false :: fmF (f - 1) (ik / 2) ((ck + 1) / 2) by rw [HF.out, HST.out]; congr 2; rw [decide_eq_false e1, Bool.false_and])
        have u1 : ((ik : Int) == (ck : Int) - 1) = false := by rw [beq_eq_false_iff_ne]; omega
        clear e1
        have HZ1 := Lib.hid (show ((ik / 2 : Nat) : Int) = (ik : Int) / 2 by omega)
        have HZ2 := Lib.hid (show (((ck + 1) / 2 : Nat) : Int) = ((ck : Int) + 1) / 2 by omega)
        have HZ3 := Lib.hid (show (ck + 1) / 2 < ck ∧ (ck + 1) / 2 ≤ 64 ∧ ik / 2 ≤ 64 ∧ (ck + 1) / 2 ≤ f - 1 by omega)
        gi_wp2_with fail
        obtain ⟨fn, tmps, assign, body, hy, hRR⟩ := HY.out pre false _ HJ.out ⟨_, HXB.out⟩
        rw [hy]
        gi_wp2
        refine hRR.mono ?_
        rintro e W4 (⟨rfl, hJ4, hs1, hs2⟩ | ⟨rfl, hJx4⟩)
        · have HJ4 := Lib.hid hJ4
          have K1 := Lib.hid (H1.out.same hs1)
          have K2 := Lib.hid (H2.out.same hs2)
          clear hJ4 hs1 hs2 hRR hy H1 H2 HJ c1 c2 l1 l2 u1 t1
          have c1 := (K1.out.cell 0).trans (rfl : _ = some (Value.int .i64 (ck : Int)))
          have c2 := (K2.out.cell 0).trans (rfl : _ = some (Value.int .i64 (ik : Int)))
          have l1 := K1.out.lt
          have l2 := K2.out.lt
          have f1 := K1.out.frz 0
          have f2 := K2.out.frz 0
          have n1 : ¬ B1 = B2 := HNE.out
          have n2 : ¬ B2 = B1 := fun e => HNE.out e.symm
          have M2 := Lib.hid ((K2.out.set 0 (.int .i64 ((ik : Int) / 2)) (vs' := #[.int .i64 ((ik : Int) / 2)]) rfl).away (B := B1) n2 0 (.int .i64 (((ck : Int) + 1) / 2)))
          have M1 := Lib.hid ((K1.out.away (B := B2) n1 0 (.int .i64 ((ik : Int) / 2))).set 0 (.int .i64 (((ck : Int) + 1) / 2)) (vs' := #[.int .i64 (((ck : Int) + 1) / 2)]) rfl)
          have MJ := Lib.hid (HS.out _ _ B1 (.int .i64 (((ck : Int) + 1) / 2)) (.inl rfl) (HS.out _ _ B2 (.int .i64 ((ik : Int) / 2)) (.inr rfl) HJ4.out))
          gi_wp2
          go_roundw
          case rel => exact ⟨pre ++ [false], ik / 2, (ck + 1) / 2, f - 1, HZ3.out.2.2.2, HZ3.out.2.1, HZ3.out.2.2.1, Lib.hid (by rw [HXB.out]; simp), Lib.hid (by rw [HZ2.out]; exact M1.out), Lib.hid (by rw [HZ1.out]; exact M2.out), MJ⟩
          case measure => rw [cnt_box M1.out, HC0.out, ← HZ2.out, Int.toNat_natCast]; exact HZ3.out.1
        · gi_wp2
          refine bodyPost_ret (results_none rfl _ _ _) rfl ?_
          exact ⟨⟨_, rfl⟩, .inr ⟨_, ⟨fmF (f - 1) (ik / 2) ((ck + 1) / 2), by rw [HXB.out]; simp⟩, hJx4⟩⟩
    · have HEN := Lib.hid (fmF_end (f := f) (i := ik) hlt)
      have t1 : ¬ (1 : Int) < (ck : Int) := by omega
      gi_wp2
      go_end0
      exact ⟨⟨_, rfl⟩, .inl (by rw [HF.out, HEN.out, List.append_nil]; exact HJ.out)⟩
end Go.Proofs.Ytiiehoeoaalbmaa
