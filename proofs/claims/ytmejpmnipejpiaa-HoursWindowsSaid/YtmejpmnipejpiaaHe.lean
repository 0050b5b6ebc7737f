/- Quiet hours: which minutes are quiet. -/
import Derived.Test.YtmejpmnipejpiaaHd
namespace Go.Proofs.Ytmejpmnipejpiaa
open Go.RowKit

set_option maxRecDepth 100000 in
set_option maxHeartbeats 4000000 in
theorem quietMin_any (v : Value) (l : List (Int × Int)) (w : World) (h : WinsAt w v l) (hok : ∀ j, j < l.length → okW (l.getD j (0, 0)) = true) (h8 : l.length ≤ 8) : Calls Try.prog 22 #[v] w fun e w' => e = .returned (.agg (bArr (qF l l.length))) ∧ Below w.heap.size w w' := by
  have HL := Lib.hid h
  have HO := Lib.hid hok
  obtain ⟨a, cap, rfl, hcp, hm, hc⟩ := h
  unfold maxLen at hm
  clear hc hcp hok
  have H8 := Lib.hid h8
  clear h8
  go_enter Try.func22, Try.ntmps22
  go_wp2_with (refine wpList_alloc45 rfl rfl _ rfl ?_)
  have HB0 := Lib.hid (al2 (w := w) (o1 := .cells (bArr noB) 45) (o2 := .cells (bArr noB) 45))
  have HR := Lib.hid ((BoxA.new w noB rfl).step (al _ (.cells (bArr noB) 45)))
  have HQ := Lib.hid (BoxA.new (w.alloc (.cells (bArr noB) 45)) noB (n := w.heap.size + 1) (by simp))
  obtain ⟨w0, hw0⟩ : ∃ z, (w.alloc (.cells (bArr noB) 45)).alloc (.cells (bArr noB) 45) = z := ⟨_, rfl⟩
  rw [hw0] at HB0 HR HQ ⊢
  clear hw0
  go_loopw [9] (fun i wr => ∃ k : Nat, k ≤ l.length ∧ i = .int .i64 k ∧ Hid (BoxA wr w.heap.size noB) ∧ Hid (BoxA wr (w.heap.size + 1) (qF l k)) ∧ Hid (Below w.heap.size w wr)) (fun i _ => l.length - (intOf i).toNat)
  case atStart => exact ⟨0, by omega, rfl, HR, Lib.hid (HQ.out.congr fun x _ => (qF_zero l x).symm), HB0⟩
  case round =>
    clear HR HQ HB0
    obtain ⟨k, hk, rfl, HR, HQ, HB⟩ := hrel
    by_cases hlt : k < l.length
    · obtain ⟨a2, cap2, hva, -, -, hcs⟩ := HL.out.step HB.out
      obtain ⟨rfl, rfl⟩ : a = a2 ∧ cap = cap2 := by simpa using hva
      obtain ⟨b, off, rfl, hcs2⟩ := hcs (by intro h; rw [h] at hlt; simp at hlt)
      obtain ⟨x0, x1⟩ := hcs2 k _ (win_get (d := (0, 0)) hlt)
      clear hcs hcs2 hva
      have hok := HO.out k hlt
      have HS := Lib.hid (fun f t (hp : l.getD k (0, 0) = (f, t)) (ho : okW (f, t) = true) => qF_succ hlt hp ho)
      obtain ⟨p, hp⟩ : ∃ p, l.getD k (0, 0) = p := ⟨_, rfl⟩
      rw [hp] at x0 x1 hok HS
      obtain ⟨f, t⟩ := p
      replace HS := Lib.hid (HS.out f t rfl hok)
      clear hp
      unfold okW at hok
      simp at hok
      simp only at x0 x1
      obtain ⟨⟨hf0, hf1⟩, hft⟩ := hok
      have hft2 := hf1.1
      have hft3 := hf1.2
      clear hf1 hft
      have xb : b < wr.heap.size := World.block_lt_of_cell? _ _ x0
      obtain ⟨n, hn⟩ : ∃ n : Nat, (t - f) % 1440 = n := ⟨((t - f) % 1440).toNat, by omega⟩
      have hn2 : n < 1440 := by omega
      have HN := Lib.hid hn
      have q1 : wrap64 (t - f) = t - f := IntWalk.wrap64_in _ (by omega)
      have q2 : wrap64 (t - f + 1440) = t - f + 1440 := IntWalk.wrap64_in _ (by omega)
      have q3 : (t - f + 1440).tmod 1440 = (n : Int) := by rw [Int.tmod_eq_emod_of_nonneg (by omega)]; omega
      have q4 : (t - f + 1440) % 1440 = (n : Int) := by omega
      have q5 : wrap64 ((n : Int)) = n := IntWalk.wrap64_in _ (by omega)
      have HF := Lib.hid (show 0 ≤ f ∧ f ≤ 1439 from ⟨hf0.1, hf0.2⟩)
      clear hn hft2 hft3
      obtain ⟨fn, rfl⟩ := Int.eq_ofNat_of_zero_le hf0.1
      have hf9 : fn < 1440 := by have := hf0.2; omega
      clear hf0 HF
      have HB1 := Lib.hid (HB.out.alloc HB.out.size (.cells #[.int .i64 fn, .int .i64 t] 40))
      have HR1 := Lib.hid (HR.out.step (al wr (.cells #[.int .i64 fn, .int .i64 t] 40)))
      have HQ1 := Lib.hid (HQ.out.step (al wr (.cells #[.int .i64 fn, .int .i64 t] 40)))
      clear HB HR HQ
      go_wp2_with fail
      clear q1 q2 q3 q4 q5 x0 x1 xb
      replace hlt := Lib.hid hlt
      replace hk := Lib.hid hk
      go_loopw [6, 22] (fun mv jv w2 => ∃ j m : Nat, j ≤ n ∧ Hid ((m : Int) = ((fn : Int) + j) % 1440) ∧ mv = .int .i64 m ∧ jv = .int .i64 j ∧ Hid (BoxA w2 w.heap.size noB) ∧ Hid (BoxA w2 (w.heap.size + 1) (mk1 (qF l k) fn j)) ∧ Hid (Below w.heap.size w w2)) (fun _ jv _ => n - (intOf jv).toNat)
      case atStart => exact ⟨0, fn, by omega, Lib.hid (by omega), rfl, rfl, HR1, Lib.hid (HQ1.out.congr fun x _ => (mk1_zero _ _ x).symm), HB1⟩
      case round =>
        clear HR1 HQ1 HB1
        obtain ⟨j, m, hj, HM, rfl, rfl, HR, HQ, HB⟩ := hrel
        by_cases hlt2 : j < n
        · have hm9 : m < 1440 := by have := HM.out; omega
          have x0 := HQ.out.cell hm9
          have x1 := HQ.out.frozen m
          have x2 := HQ.out.lt
          have HQ2 := Lib.hid (HQ.out.set (mk1_succ (qF l k) fn j m (by omega) HM.out))
          have HR2 := Lib.hid (HR.out.other (m := m) (v := .bool true) (show w.heap.size ≠ w.heap.size + 1 by omega))
          have HB2 := Lib.hid (HB.out.setCell (p := ⟨w.heap.size + 1, m, none⟩) (by simp) (.bool true))
          clear HQ HR HB
          by_cases h9 : m = 1439
          · subst h9
            have HM2 := Lib.hid (show ((0 : Nat) : Int) = ((fn : Int) + ((j + 1 : Nat) : Int)) % 1440 by have := HM.out; omega)
            clear HM
            go_wp2
            go_roundw
            case rel => exact ⟨j + 1, 0, hlt2, HM2, rfl, by go_num, HR2, HQ2, HB2⟩
            case measure => simp [intOf]; omega
          · have HM2 := Lib.hid (show ((m + 1 : Nat) : Int) = ((fn : Int) + ((j + 1 : Nat) : Int)) % 1440 by have := HM.out; omega)
            clear HM
            have e1 : ((m : Int) + 1 == 1440) = false := by simp; omega
            go_wp2
            go_roundw
            case rel => exact ⟨j + 1, m + 1, hlt2, HM2, by go_num, by go_num, HR2, HQ2, HB2⟩
            case measure => simp [intOf]; omega
        · obtain rfl : j = n := by omega
          have HQ3 := Lib.hid (HQ.out.congr (g := qF l (k + 1)) fun x hx => by rw [HS.out x hx, show ((t - (fn : Int)) % 1440).toNat = j by have := HN.out; omega])
          replace hlt := hlt.out
          clear HQ HS HM
          go_wp2
          go_roundw
          case rel => exact ⟨k + 1, hlt, by go_num, HR, HQ3, HB⟩
          case measure => simp [intOf]; omega
    · obtain rfl : k = l.length := by omega
      have HB2 := Lib.hid (below_setRow HB.out (B := w.heap.size) (Nat.le_refl _) (bArr (qF l l.length)))
      have HR2 := Lib.hid (setRow_new HR.out (qF l l.length))
      go_wp2_with (first | (refine wpList_load45 rfl _ rfl _ rfl _ HQ.out ?_) | (refine wpList_store45 rfl _ _ rfl _ rfl _ _ rfl HR.out ?_))
      refine bodyPost_ret (results_cell_row rfl _ _ w.heap.size 45 _ _ _ rfl HR2.out Try.underlying45 rfl (size45 _)) rfl ?_
      exact ⟨rfl, HB2.out⟩
end Go.Proofs.Ytmejpmnipejpiaa
