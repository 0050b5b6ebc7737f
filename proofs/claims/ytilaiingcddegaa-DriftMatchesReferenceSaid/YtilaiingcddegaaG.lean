/- 'IndexFunc', 'ContainsFunc'; corrected readings as lists; the iterator's contract. -/
import Derived.RangeFuncNested
import Derived.RangeFuncBound
import Derived.RangeFuncCalls
import Derived.RangeFuncLeaves
import Derived.RangeFuncBox
import Derived.TacticsInMore
import Derived.LoopNIn
import Derived.LoopIn
import Derived.OwnWalkIn
import Derived.Test.YtilaiingcddegaaF
namespace Go.Proofs.Ytilaiingcddegaa
open Go.RowKit
attribute [local go_sem] Oper.semAt_some

set_option maxRecDepth 100000 in
set_option maxHeartbeats 1000000 in
theorem indexFunc_any (v : Value) (l : List Int) (w : World) (h : IntsAt w v l) :
    Calls Try.prog 31 #[v, .func (.func 27) #[] #[]] w fun e w' => (∃ k : Int, e = .returned (.int .i64 k) ∧ decide (0 ≤ k) = !inR l) ∧ w = w' := by
  obtain ⟨a, cap, rfl, hm, hc⟩ := h
  unfold maxLen at hm
  have HC := Lib.hid hc
  clear hc
  have heg : ∀ args w, (callFunc 27 args).run Try.prog w = .ok (.enter 27 args) w := fun _ _ => by kernel_rfl
  go_enter Try.func31, Try.ntmps31
  go_wp2_with fail
  go_loop [8] (fun i => ∃ k : Nat, k ≤ l.length ∧ i = .int .i64 k ∧ Hid (∀ j (hj : j < l.length), j < k → inB l[j] (-1000000000) 1000000000 = true)) (fun i => l.length - (intOf i).toNat)
  case atStart => exact ⟨0, by omega, rfl, fun j hj h => absurd h (by omega)⟩
  case round =>
    obtain ⟨k, hk, rfl, HN⟩ := hrel
    by_cases hlt : k < l.length
    · obtain ⟨b, off, rfl, hcs⟩ := HC.out (by intro h; rw [h] at hlt; simp at hlt)
      have hx := hcs k l[k] (by simp)
      clear hcs
      cases hf : inB l[k] (-1000000000) 1000000000
      · have HF := Lib.hid (inR_no hlt hf)
        generalize l[k] = x at *
        go_wp2_with (go_at_call 27; go_must (refine (outside_any x _).mono ?_); rintro e w' ⟨rfl, rfl⟩; rw [hf])
        go_ret
        exact ⟨⟨k, rfl, by rw [HF.out]; simp⟩, rfl⟩
      · have HN2 := Lib.hid (show ∀ j (hj : j < l.length), j < k + 1 → inB l[j] (-1000000000) 1000000000 = true from fun j hj h => by
          by_cases e : j = k
          · subst e; exact hf
          · exact HN.out j hj (by omega))
        generalize l[k] = x at *
        go_wp2_with (go_at_call 27; go_must (refine (outside_any x _).mono ?_); rintro e w' ⟨rfl, rfl⟩; rw [hf])
        go_round
        case rel => exact ⟨k + 1, by omega, by go_num, HN2⟩
        case measure => simp [intOf]; omega
    · have HF := Lib.hid (inR_yes fun j hj => HN.out j hj (by omega))
      go_wp2
      go_ret
      exact ⟨⟨-1, rfl, by rw [HF.out]; rfl⟩, rfl⟩
theorem contains_any (v : Value) (l : List Int) (w : World) (h : IntsAt w v l) :
    Calls Try.prog 29 #[v, .func (.func 27) #[] #[]] w fun e w' => e = .returned (.bool (!inR l)) ∧ w = w' := by
  have H := Lib.hid h
  clear h
  go_enter Try.func29, Try.ntmps29
  go_wp2_with fail
  refine (indexFunc_any v l _ H.out).mono ?_
  rintro e w' ⟨⟨k, rfl, hk⟩, rfl⟩
  have HK := Lib.hid hk
  clear hk
  go_wp2
  go_ret
  exact ⟨ret_bool HK.out, rfl⟩

/-- The corrected reading with an index. -/
def bk (l : List Int) : Nat → Int
  | 0 => l.getD 0 0
  | k + 1 => bk l k + mx 0 (l.getD (k + 1) 0 - l.getD k 0)
def pv (l : List Int) : Nat → Int
  | 0 => 0
  | k + 1 => bk l k
def backL (l : List Int) : List Int := (List.range l.length).map (bk l)
theorem backL_len (l : List Int) : (backL l).length = l.length := by simp [backL]
theorem backL_take (l : List Int) (k : Nat) (h : k < l.length) : (backL l).take (k + 1) = (backL l).take k ++ [bk l k] := by
  rw [List.take_succ_eq_append_getElem (by rw [backL_len]; exact h)]; simp [backL]
theorem inR_get {l : List Int} (h : inR l = true) (k : Nat) : -1000000000 ≤ l.getD k 0 ∧ l.getD k 0 ≤ 1000000000 := by
  unfold inR at h
  rw [List.all_eq_true] at h
  by_cases hk : k < l.length
  · rw [show l.getD k 0 = l[k] by simp [hk]]; exact of_decide_eq_true (h _ (List.getElem_mem hk))
  · rw [show l.getD k 0 = 0 by simp [hk]]; omega
theorem mx_bd (x : Int) (h1 : -2000000000 ≤ x) (h2 : x ≤ 2000000000) : 0 ≤ mx 0 x ∧ mx 0 x ≤ 2000000000 := by
  unfold mx; split <;> omega
theorem bk_bd {l : List Int} (h : inR l = true) (k : Nat) : -1000000000 ≤ bk l k ∧ bk l k ≤ 1000000000 + 2000000000 * k := by
  induction k with
  | zero => have := inR_get h 0; rw [bk]; omega
  | succ k ih =>
    have h1 := inR_get h k
    have h2 := inR_get h (k + 1)
    have h3 := mx_bd (l.getD (k + 1) 0 - l.getD k 0) (by omega) (by omega)
    rw [bk]; omega
theorem getD_of {l : List Int} {k : Nat} (h : k < l.length) : l[k]? = some (l.getD k 0) := by
  simp [h]

theorem grown_of_below {w w' : World} (h : Below w.heap.size w w') : w.grownBy w' none :=
  ⟨h.os, h.tape, h.output, h.size, fun k hk _ => h.block k hk⟩
/-- A block of cells lies as it lay. -/
def Same (B : Nat) (W W' : World) : Prop := ∀ o : Obj, W.heap[B]? = some o → o.isCells = true → W'.heap[B]? = some o
/-- What a round of a loop over the readings keeps. -/
def Keep (n₀ B : Nat) (W W' : World) : Prop := Below n₀ W W' ∧ Same B W W'
theorem Keep.trans {n₀ B : Nat} {X Y Z : World} (h : Keep n₀ B X Y) (k : Keep n₀ B Y Z) : Keep n₀ B X Z := ⟨h.1.trans k.1, fun o ho hc => k.2 o (h.2 o ho hc) hc⟩
theorem Keep.putObj {n₀ B : Nat} {w : World} (hn : n₀ ≤ w.heap.size) (W : World) (l : Nat) (o o' : Obj) (hl : w.heap.size ≤ l) (h : W.heap[l]? = some o) (hc : o.isCells = false) (hw : o.isWalk = false) : Keep n₀ B W (W.putObj l o') :=
  ⟨belowK_b hn W l o o' hl h hc hw, fun o2 h2 hc2 => ((grownBy_putObj' W l o').block B (Array.getElem?_eq_some_iff.1 h2).1 (fun e => by cases e; rw [h] at h2; cases h2; rw [hc] at hc2; cases hc2)).trans h2⟩

theorem corrected_any (a : Option Addr) (n c : Nat) (w : World) : Calls Try.prog 30 #[.slice a n c] w fun e w' => e = .returned (.func (.func 32) #[] #[.pointer (some ⟨w.heap.size, 0, none⟩)]) ∧ w' = w.alloc (.cells #[.slice a n c] 24) := by
  go_enter Try.func30, Try.ntmps30
  go_wp2
  go_ret
  exact ⟨rfl, rfl⟩

set_option maxRecDepth 100000 in
set_option maxHeartbeats 2000000 in
theorem iter1 (l : List Int) (v : Value) (w0 : World) (hl : IntsAt w0 v l) (hR : inR l = true) (h4 : l.length ≤ 400) (n : Nat) (hn : 1 ≤ n) (lp Bs : Nat) (J Jx : List Int → World → Prop)
    (hY : ∀ pre x W, J pre W → pre.length < l.length → YieldAt Fence.wide (n - 1) Try.prog lp #[.int .i64 x] W fun e W' =>
      (e = .returned (.bool true) ∧ J (pre ++ [x]) W' ∧ Keep w0.heap.size Bs W W') ∨ (e = .returned (.bool false) ∧ Jx (pre ++ [x]) W'))
    (W : World) (hB0 : Below w0.heap.size w0 W) (hBx : Boxed W Bs 24 v) (h0 : J [] W) :
    CallsIn Fence.wide n Try.prog 32 #[.func (.yield lp) #[] #[], .pointer (some ⟨Bs, 0, none⟩)] W fun e W' => (∃ v, e = .returned v) ∧
      ((∃ ys, ys = backL l ∧ J ys W') ∨ (∃ pre, pre <+: backL l ∧ Jx pre W')) := by
  have HL := Lib.hid hl
  obtain ⟨a, cap, rfl, -, -⟩ := hl
  have HY := Lib.hid hY
  have HR := Lib.hid hR
  have hBs := hBx.cell
  have hlt0 := hBx.lt
  have HBx := Lib.hid hBx
  clear hBx hY hR
  refine callsIn_of_wp Try.func32 rfl trivial ?_ rfl
  simp only [Try.ntmps32, List.size_toArray, List.length_cons, List.length_nil, Nat.reduceAdd, Nat.reduceSub, Array.replicate_succ, Array.replicate_zero, List.push_toArray, List.append_toArray, List.nil_append, List.cons_append]
  gi_wp2
  gi_loopw [3, 8] (fun nw i wr => ∃ k : Nat, k ≤ l.length ∧ i = .int .i64 k ∧ nw = .int .i64 (pv l k) ∧ J ((backL l).take k) wr ∧ Hid (Below w0.heap.size w0 wr) ∧ Hid (Boxed wr Bs 24 (.slice a l.length cap)))
    (fun _ i _ => l.length - (intOf i).toNat)
  case atStart => exact ⟨0, by omega, rfl, rfl, by simpa using h0, hB0, HBx.out⟩
  case round =>
    obtain ⟨k, hk, rfl, rfl, hj, HB, HX⟩ := hrel
    have hcb := HX.out.cell
    by_cases hlt : k < l.length
    · have hla := HL.out.step HB.out
      obtain ⟨a2, cap2, hva, -, hcs⟩ := hla
      obtain ⟨rfl, rfl⟩ : a = a2 ∧ cap = cap2 := by simpa using hva
      obtain ⟨b, off, rfl, hcs2⟩ := hcs (by intro h; rw [h] at hlt; simp at hlt)
      clear hcs
      have hx := hcs2 k _ (getD_of hlt)
      have HT := Lib.hid (backL_take l k hlt)
      have g1 := inR_get HR.out k
      have HP := Lib.hid (show ((backL l).take k).length < l.length by rw [List.length_take, backL_len]; omega)
      clear hva
      cases k with
      | zero =>
        have HK := Lib.hid (show bk l 0 = l.getD 0 0 from rfl)
        clear hcs2
        rw [Nat.add_zero] at hx
        rw [show ((0 : Nat) : Int) = 0 from rfl, show pv l 0 = 0 from rfl]
        generalize l.getD 0 0 = x at *
        obtain ⟨fn, tmps, assign, body, hy, hRR⟩ := HY.out _ x _ hj HP.out
        gi_wp2
        refine hRR.mono ?_
        rintro e W3 (⟨rfl, hJ3, hk3, hs3⟩ | ⟨rfl, hJx3⟩)
        · have HJ3 := Lib.hid hJ3
          have HB3 := Lib.hid (HB.out.trans hk3)
          have HX3 := Lib.hid (show Boxed W3 Bs 24 (.slice (some ⟨b, off, none⟩) l.length cap) from hs3 _ HX.out rfl)
          clear hJ3 hk3 hs3 hRR hy hcb
          gi_wp2
          go_roundw
          case rel => exact ⟨1, hlt, by go_num, by rw [pv, HK.out], by rw [HT.out, HK.out]; exact HJ3.out, HB3, HX3⟩
          case measure => simp [intOf]; omega
        · gi_wp2
          refine bodyPost_ret (results_none rfl _ _ _) rfl ?_
          exact ⟨⟨_, rfl⟩, .inr ⟨_, ⟨(backL l).drop 1, by rw [← HK.out, ← HT.out, List.take_append_drop]⟩, hJx3⟩⟩
      | succ m =>
        have hx1 := hcs2 m _ (getD_of (show m < l.length by omega))
        have g2 := inR_get HR.out m
        have g3 := bk_bd HR.out m
        have hm4 : m < 400 := by omega
        have HM := Lib.hid (mx_bd (l.getD (m + 1) 0 - l.getD m 0) (by omega) (by omega))
        have HK := Lib.hid (show bk l (m + 1) = bk l m + mx 0 (l.getD (m + 1) 0 - l.getD m 0) from rfl)
        have HV := Lib.hid (show pv l (m + 1 + 1) = bk l (m + 1) from rfl)
        rw [show pv l (m + 1) = bk l m from rfl]
        clear hcs2
        generalize l.getD (m + 1) 0 = x at *
        generalize l.getD m 0 = y at *
        generalize bk l m = nw at *
        by_cases hxy : 0 < x - y
        · have HE := Lib.hid (show bk l (m + 1) = nw + (x - y) by rw [HK.out]; unfold mx; rw [if_pos hxy])
          obtain ⟨fn, tmps, assign, body, hy, hRR⟩ := HY.out _ (nw + (x - y)) _ hj HP.out
          gi_wp2
          refine hRR.mono ?_
          rintro e W3 (⟨rfl, hJ3, hk3, hs3⟩ | ⟨rfl, hJx3⟩)
          · have HJ3 := Lib.hid hJ3
            have HB3 := Lib.hid (HB.out.trans hk3)
            have HX3 := Lib.hid (show Boxed W3 Bs 24 (.slice (some ⟨b, off, none⟩) l.length cap) from hs3 _ HX.out rfl)
            clear hJ3 hk3 hs3 hRR hy hcb
            gi_wp2
            go_roundw
            case rel => exact ⟨m + 1 + 1, hlt, by go_num, by rw [HV.out, HE.out], by rw [HT.out, HE.out]; exact HJ3.out, HB3, HX3⟩
            case measure => simp [intOf]; omega
          · gi_wp2
            refine bodyPost_ret (results_none rfl _ _ _) rfl ?_
            exact ⟨⟨_, rfl⟩, .inr ⟨_, ⟨(backL l).drop (m + 1 + 1), by rw [← HE.out, ← HT.out, List.take_append_drop]⟩, hJx3⟩⟩
        · have HE := Lib.hid (show bk l (m + 1) = nw by rw [HK.out]; unfold mx; rw [if_neg hxy]; omega)
          obtain ⟨fn, tmps, assign, body, hy, hRR⟩ := HY.out _ nw _ hj HP.out
          gi_wp2
          refine hRR.mono ?_
          rintro e W3 (⟨rfl, hJ3, hk3, hs3⟩ | ⟨rfl, hJx3⟩)
          · have HJ3 := Lib.hid hJ3
            have HB3 := Lib.hid (HB.out.trans hk3)
            have HX3 := Lib.hid (show Boxed W3 Bs 24 (.slice (some ⟨b, off, none⟩) l.length cap) from hs3 _ HX.out rfl)
            clear hJ3 hk3 hs3 hRR hy hcb
            gi_wp2
            go_roundw
            case rel => exact ⟨m + 1 + 1, hlt, by go_num, by rw [HV.out, HE.out], by rw [HT.out, HE.out]; exact HJ3.out, HB3, HX3⟩
            case measure => simp [intOf]; omega
          · gi_wp2
            refine bodyPost_ret (results_none rfl _ _ _) rfl ?_
            exact ⟨⟨_, rfl⟩, .inr ⟨_, ⟨(backL l).drop (m + 1 + 1), by rw [← HE.out, ← HT.out, List.take_append_drop]⟩, hJx3⟩⟩
    · gi_wp2
      go_end0
      exact ⟨⟨_, rfl⟩, .inl ⟨_, rfl, by rwa [List.take_of_length_le (by rw [backL_len]; omega)] at hj⟩⟩
end Go.Proofs.Ytilaiingcddegaa
