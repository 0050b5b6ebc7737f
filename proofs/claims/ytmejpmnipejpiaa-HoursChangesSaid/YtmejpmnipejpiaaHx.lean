/- Law HoursChanges, the walk. -/
import Derived.Test.YtmejpmnipejpiaaHw
namespace Go.Proofs.Ytmejpmnipejpiaa
open Go.RowKit

set_option maxRecDepth 100000 in
set_option maxHeartbeats 8000000 in
theorem hx_a (v : Value) (l : List (Int × Int)) (m a b r : Int) (w : World) (h : WinsAt w v l) (hf : fine l m = false) : Calls Try.prog 6 #[v, .int .i64 m, .int .u16 a, .int .u16 b, .int .u16 r] w fun e w' => e = .returned (.bool true) ∧ Below w.heap.size w w' := by
  have HI0 := Lib.hid h
  obtain ⟨va, vc, rfl, -, hm9, -⟩ := h
  unfold maxLen at hm9
  replace hf := Lib.hid hf
  have HB0 := Lib.hid (Below.refl w.heap.size w)
  go_enter Try.func6, Try.ntmps6
  go_wp2_with fail
  refine (head_any _).mono ?_
  rintro e u1 ⟨rfl, b1⟩
  have FL_1 := Lib.hid (HI0.out.step b1)
  clear HI0
  have HB2 := Lib.hid (keep2 b1 HB0.out)
  clear HB0 b1
  go_wp2_with fail
  refine (fine_q _ l m _ hf.out _ FL_1.out).mono ?_
  rintro e u2 ⟨rfl, b2⟩
  have FL_3 := Lib.hid (FL_1.out.step b2)
  clear FL_1
  have HB4 := Lib.hid (keep2 b2 HB2.out)
  clear HB2 b2
  go_wp2
  go_ret
  exact ⟨rfl, HB4.out⟩
/-- What the law says of the changes of a range. -/
structure Facts (l : List (Int × Int)) (m : Int) (n1 n2 k : Nat) (C C1 C2 : List (Int × Bool)) (q0 q1 : Bool) : Prop where
  c0 : cgV l m (m + n1 + n2) = C
  c1 : cgV l m (m + n1) = C1
  c2 : cgV l (m + n1) (m + n1 + n2) = C2
  e0 : qui l m = q0
  e1 : qui l (m + k) = q1
  len : C.length ≤ 14000 ∧ C1.length ≤ 7000 ∧ C2.length ≤ 7000
  app : C1 ++ C2 = C
  mem : ∀ i, i < C.length → m < (C.getD i (0, false)).1 ∧ (C.getD i (0, false)).1 ≤ m + n1 + n2
  next : ∀ i, i + 1 < C.length → (C.getD i (0, false)).1 < (C.getD (i + 1) (0, false)).1 ∧ (C.getD i (0, false)).2 ≠ (C.getD (i + 1) (0, false)).2
  first : 0 < C.length → (C.getD 0 (0, false)).2 ≠ q0
  till : ∀ i, i ≤ C.length → (∀ j, j < i → (C.getD j (0, false)).1 ≤ m + k) → (i < C.length → ¬ (C.getD i (0, false)).1 ≤ m + k) → lastB q0 (C.take i) = q1
theorem cgV_fine {l : List (Int × Int)} {m x : Int} {n : Nat} (h : fine l m = true) (h1 : m ≤ x ∧ x ≤ m + 14000) (hn : n ≤ 14000) : cgV l x (x + n) = chs (Qm l) x n := by
  have hf := fine_iff.1 h
  have hc : cgr l x (x + n) = true := by
    unfold cgr
    rw [hf.1, inR_of (by omega) (by omega), inR_of (by omega) (by omega), decide_eq_true (by omega)]
    rfl
  rw [cgV_yes hc]
  congr 1
  omega
theorem facts_any {l : List (Int × Int)} {m : Int} {n1 n2 k : Nat} (h : fine l m = true) (h1 : n1 ≤ 7000) (h2 : n2 ≤ 7000) (hk : k ≤ n1 + n2) : Facts l m n1 n2 k (chs (Qm l) m (n1 + n2)) (chs (Qm l) m n1) (chs (Qm l) (m + n1) n2) (Qm l m) (Qm l (m + k)) := by
  have hf := fine_iff.1 h
  have e0 := cgV_fine (n := n1 + n2) (x := m) h (by omega) (by omega)
  rw [show m + ((n1 + n2 : Nat) : Int) = m + n1 + n2 by omega] at e0
  have hml := fun i (hi : i < (chs (Qm l) m (n1 + n2)).length) => (by
    have hm : (chs (Qm l) m (n1 + n2)).getD i (0, false) ∈ chs (Qm l) m (n1 + n2) := by
      rw [List.getD_eq_getElem?_getD, List.getElem?_eq_getElem hi]
      exact List.getElem_mem hi
    have := chs_mem hm
    exact ⟨this.1, by have h9 := this.2.1; omega⟩ : m < ((chs (Qm l) m (n1 + n2)).getD i (0, false)).1 ∧ ((chs (Qm l) m (n1 + n2)).getD i (0, false)).1 ≤ m + n1 + n2)
  refine ⟨e0, cgV_fine h (by omega) (by omega), cgV_fine h (by omega) (by omega), (fine_in h (by omega) (by omega)).2, (fine_in h (by omega) (by omega)).2, ⟨?_, ?_, ?_⟩, (chs_add _ _ _ _).symm, hml, fun i hi => chs_next _ _ _ i hi, fun hi => chs_first _ _ _ hi, fun i hi hj hx => chs_till (r := k) (by omega) hi hj hx⟩
  · have := chs_len (Qm l) m (n1 + n2); omega
  · have := chs_len (Qm l) m n1; omega
  · have := chs_len (Qm l) (m + n1) n2; omega
set_option maxRecDepth 100000 in
set_option maxHeartbeats 8000000 in
theorem hx_b (v : Value) (l : List (Int × Int)) (m : Int) (an bn rn n1 n2 k : Nat) (C C1 C2 : List (Int × Bool)) (q0 q1 : Bool) (w : World) (h : WinsAt w v l) (hf : fine l m = true) (ha : an ≤ 65535) (hb2 : bn ≤ 65535) (hr : rn ≤ 65535) (hp : an % 7001 = n1 ∧ bn % 7001 = n2 ∧ rn % (n1 + n2 + 1) = k) (F : Facts l m n1 n2 k C C1 C2 q0 q1) : Calls Try.prog 6 #[v, .int .i64 m, .int .u16 an, .int .u16 bn, .int .u16 rn] w fun e w' => e = .returned (.bool true) ∧ Below w.heap.size w w' := by
  have HI0 := Lib.hid h
  obtain ⟨va, vc, rfl, -, hm9, -⟩ := h
  unfold maxLen at hm9
  have hb := (fine_iff.1 hf).2
  obtain ⟨p0, p1, p2⟩ := hp
  have k1 : ((an : Int) % 7001) = (n1 : Int) := by rw [← p0]; omega
  have k2 : (an : Int).tmod 7001 = (n1 : Int) := by rw [Int.tmod_eq_emod_of_nonneg (by omega), k1]
  have k3 : ((bn : Int) % 7001) = (n2 : Int) := by rw [← p1]; omega
  have k4 : (bn : Int).tmod 7001 = (n2 : Int) := by rw [Int.tmod_eq_emod_of_nonneg (by omega), k3]
  have k5 : m + (n1 : Int) + (n2 : Int) - m = (n1 : Int) + (n2 : Int) := by omega
  have k6 : ((rn : Int) % ((n1 : Int) + (n2 : Int) + 1)) = (k : Int) := by rw [← p2, Int.natCast_emod]; simp
  have k7 : (rn : Int).tmod ((n1 : Int) + (n2 : Int) + 1) = (k : Int) := by rw [Int.tmod_eq_emod_of_nonneg (by omega), k6]
  have g1 : n1 ≤ 7000 := by omega
  have g2 : n2 ≤ 7000 := by omega
  have g3 : k ≤ n1 + n2 := by have := Nat.mod_lt rn (show 0 < n1 + n2 + 1 by omega); omega
  have g4 : ¬ (n1 : Int) + (n2 : Int) + 1 = 0 := by omega
  have FF := Lib.hid F
  have hlen := F.len
  clear F p0 p1 p2
  replace hf := Lib.hid hf
  have HB0 := Lib.hid (Below.refl w.heap.size w)
  go_enter Try.func6, Try.ntmps6
  go_wp2_with fail
  refine (head_any _).mono ?_
  rintro e u1 ⟨rfl, b1⟩
  have FL_1 := Lib.hid (HI0.out.step b1)
  clear HI0
  have HB2 := Lib.hid (keep2 b1 HB0.out)
  clear HB0 b1
  go_wp2_with fail
  refine (fine_q _ l m _ hf.out _ FL_1.out).mono ?_
  rintro e u2 ⟨rfl, b2⟩
  have FL_3 := Lib.hid (FL_1.out.step b2)
  clear FL_1
  have HB4 := Lib.hid (keep2 b2 HB2.out)
  clear HB2 b2
  go_wp2_with fail
  refine (cg_q _ l m (m + (n1 : Int) + (n2 : Int)) C FF.out.c0 _ FL_3.out).mono ?_
  rintro e u3 ⟨ca, ck, rfl, hc, b3⟩
  have FL_5 := Lib.hid (FL_3.out.step b3)
  clear FL_3
  have HB6 := Lib.hid (keep2 b3 HB4.out)
  clear HB4 b3
  have FC_7 := Lib.hid (hc)
  clear hc
  go_wp2_with fail
  refine (quiet_q _ l m _ FF.out.e0 _ FL_5.out).mono ?_
  rintro e u4 ⟨rfl, b4⟩
  have FL_8 := Lib.hid (FL_5.out.step b4)
  clear FL_5
  have FC_9 := Lib.hid (FC_7.out.step b4)
  clear FC_7
  have HB10 := Lib.hid (keep2 b4 HB6.out)
  clear HB6 b4
  go_wp2_with fail
  clear k1 k2 k3 k4 k5 k6 k7
  have HQ1 := Lib.hid (fun (x : World) (hx : Below u4.heap.size u4 x) => FL_8.out.step hx)
  have HQ2 := Lib.hid (fun (x : World) (hx : Below u4.heap.size u4 x) => FC_9.out.step hx)
  have HG := Lib.hid (show n1 ≤ 7000 ∧ n2 ≤ 7000 ∧ k ≤ n1 + n2 from ⟨g1, g2, g3⟩)
  have HBD := Lib.hid hb
  clear g1 g2 g3 g4 hb
  obtain ⟨TI, hTI⟩ : ∃ z, m + (n1 : Int) + (n2 : Int) = z := ⟨_, rfl⟩
  have HTI := Lib.hid hTI
  go_loopw [17] (fun iv wr => ∃ i : Nat, i ≤ C.length ∧ iv = .int .i64 i ∧ Hid (Below u4.heap.size u4 wr)) (fun iv _ => C.length - (intOf iv).toNat)
  case atStart => exact ⟨0, by omega, rfl, Below.refl _ _⟩
  case round =>
    obtain ⟨i, hi, rfl, HB⟩ := hrel
    by_cases hlt : i < C.length
    · obtain ⟨a2, cap2, hva, -, -, hcs⟩ := HQ2.out _ HB.out
      obtain ⟨rfl, rfl⟩ : ca = a2 ∧ ck = cap2 := by simpa using hva
      obtain ⟨b1, o1, rfl, hcs2⟩ := hcs (by intro h; rw [h] at hlt; simp at hlt)
      have HCS := Lib.hid hcs2
      clear hcs hva hcs2
      have hmm := FF.out.mem i hlt
      cases i with
      | zero =>
        obtain ⟨x0, x1⟩ := HCS.out 0 _ (win_get (d := (0, false)) hlt)
        have hf0 := FF.out.first hlt
        obtain ⟨p, hp⟩ : ∃ p, C.getD 0 (0, false) = p := ⟨_, rfl⟩
        rw [hp] at x0 x1 hmm hf0
        clear hp
        obtain ⟨px, pb⟩ := p
        simp only at x0 x1 hmm hf0
        have t1 : decide (px ≤ m) = false := by simp; omega
        have t2 : decide (TI < px) = false := by rw [← hTI]; simp; omega
        have t2b : decide (px > TI) = false := t2
        have t3 : (pb == q0) = false := by simp [hf0]
        have xb : b1 < wr.heap.size := World.block_lt_of_cell? _ _ x0
        rw [show o1 + 0 * 2 = o1 by omega] at x0
        rw [show o1 + 0 * 2 + 1 = o1 + 1 by omega] at x1
        clear hmm hf0
        go_wp2_with fail
        go_quiet (fail)
        go_wp2
        go_roundw
        case rel => exact ⟨1, hlt, by go_num, Lib.hid (HB.out.trans (below_drewN' _ _ _))⟩
        case measure => simp [intOf]; omega
      | succ j =>
        obtain ⟨x0, x1⟩ := HCS.out (j + 1) _ (win_get (d := (0, false)) hlt)
        obtain ⟨y0, y1⟩ := HCS.out j _ (win_get (d := (0, false)) (show j < C.length by omega))
        obtain ⟨hn0, hn1⟩ := FF.out.next j hlt
        obtain ⟨p, hp⟩ : ∃ p, C.getD (j + 1) (0, false) = p := ⟨_, rfl⟩
        obtain ⟨q, hq⟩ : ∃ q, C.getD j (0, false) = q := ⟨_, rfl⟩
        rw [hp] at x0 x1 hmm hn0 hn1
        rw [hq] at y0 y1 hn0 hn1
        clear hp hq
        obtain ⟨px, pb⟩ := p
        obtain ⟨qx, qb⟩ := q
        simp only at x0 x1 y0 y1 hmm hn0 hn1
        have t1 : decide (px ≤ m) = false := by simp; omega
        have t2 : decide (TI < px) = false := by rw [← hTI]; simp; omega
        have t2b : decide (px > TI) = false := t2
        have t3 : (pb == qb) = false := by simp; exact fun e => hn1 e.symm
        have t4 : decide (px ≤ qx) = false := by simp; omega
        have t5 : decide ((0 : Int) < (j : Int) + 1) = true := decide_eq_true (by omega)
        have t5b : decide ((j : Int) + 1 > 0) = true := t5
        have t6 : ((j : Int) + 1 == 0) = false := by simp; omega
        have t7 : (j : Int) + 1 - 1 = j := by omega
        have xb : b1 < wr.heap.size := World.block_lt_of_cell? _ _ x0
        clear hmm hn0 hn1
        go_wp2_with fail
        go_quiet (fail)
        go_wp2
        go_roundw
        case rel => exact ⟨j + 1 + 1, hlt, by go_num, Lib.hid (HB.out.trans (below_drewN' _ _ _))⟩
        case measure => simp [intOf]; omega
    · obtain rfl : i = C.length := by omega
      go_wp2_with fail
      obtain ⟨W1, hW1⟩ : ∃ z, z = wr := ⟨_, rfl⟩
      subst hW1
      have HBU := Lib.hid (HB10.out.trans (HB.out.mono HB10.out.size))
      have HR1 := Lib.hid (fun (x : World) (hx : Below W1.heap.size W1 x) => HQ1.out x (HB.out.trans (hx.mono HB.out.size)))
      have HR2 := Lib.hid (fun (x : World) (hx : Below W1.heap.size W1 x) => HQ2.out x (HB.out.trans (hx.mono HB.out.size)))
      clear HQ1 HQ2 HB
      go_loopw [16, 18] (fun wv iv w2 => ∃ i : Nat, i ≤ C.length ∧ iv = .int .i64 i ∧ wv = .bool (lastB q0 (C.take i)) ∧ Hid (∀ j, j < i → (C.getD j (0, false)).1 ≤ m + k) ∧ Hid (Below W1.heap.size W1 w2)) (fun _ iv _ => C.length - (intOf iv).toNat)
      case atStart => exact ⟨0, by omega, rfl, rfl, Lib.hid (fun j h => absurd h (by omega)), Below.refl _ _⟩
      case round =>
        obtain ⟨i, hi, rfl, rfl, HJ, HB⟩ := hrel
        have HQ1 := HR1
        have HQ2 := HR2
        obtain ⟨W2, hW2⟩ : ∃ z, z = wr := ⟨_, rfl⟩
        subst hW2
        by_cases hlt : i < C.length
        · obtain ⟨a2, cap2, hva, -, -, hcs⟩ := HQ2.out _ HB.out
          obtain ⟨rfl, rfl⟩ : ca = a2 ∧ ck = cap2 := by simpa using hva
          obtain ⟨b1, o1, rfl, hcs2⟩ := hcs (by intro h; rw [h] at hlt; simp at hlt)
          obtain ⟨x0, x1⟩ := hcs2 i _ (win_get (d := (0, false)) hlt)
          clear hcs hva hcs2
          have xb : b1 < W2.heap.size := World.block_lt_of_cell? _ _ x0
          by_cases hx : (C.getD i (0, false)).1 ≤ m + (k : Int)
          · have HT := Lib.hid (show lastB q0 (C.take (i + 1)) = (C.getD i (0, false)).2 by rw [take_one hlt, lastB_snoc])
            have HJ2 := Lib.hid (show ∀ j, j < i + 1 → (C.getD j (0, false)).1 ≤ m + k from fun j h => by
              by_cases hji : j = i
              · rw [hji]; exact hx
              · exact HJ.out j (by omega))
            obtain ⟨lb, hlb⟩ : ∃ z, lastB q0 (C.take i) = z := ⟨_, rfl⟩
            rw [hlb]
            clear hlb HJ
            obtain ⟨p, hp⟩ : ∃ p, C.getD i (0, false) = p := ⟨_, rfl⟩
            rw [hp] at x0 x1 hx HT
            clear hp
            obtain ⟨px, pb⟩ := p
            simp only at x0 x1 hx HT
            go_wp2
            go_roundw
            case rel => exact ⟨i + 1, hlt, by go_num, by rw [HT.out], HJ2, HB⟩
            case measure => simp [intOf]; omega
          · have HLB := Lib.hid (FF.out.till i hi HJ.out (fun _ => hx))
            obtain ⟨p, hp⟩ : ∃ p, C.getD i (0, false) = p := ⟨_, rfl⟩
            rw [hp] at x0 x1 hx
            clear hp
            obtain ⟨px, pb⟩ := p
            simp only at x0 x1 hx
            have L2 := Lib.hid (HQ1.out _ HB.out)
            have D2 := Lib.hid (HQ2.out _ HB.out)
            have HBW := Lib.hid (HBU.out.trans (HB.out.mono HBU.out.size))
            clear HB
            rw [HLB.out]
            go_wp2_with fail
            refine (cg_q _ l m (m + (n1 : Int)) C1 FF.out.c1 _ (L2.out.step (al W2 (.cells #[] 37)))).mono ?_
            rintro e u6 ⟨a6, k6, rfl, hc6, b6⟩
            have hl6 := hlen.2.1
            have hl7 := hlen.2.2
            have hz6 : W2.heap.size ≤ u6.heap.size := by have := b6.size; simp at this; omega
            have H6 := keep2 b6 (al W2 (.cells #[] 37))
            obtain ⟨v7, u7, q7, r7, g7⟩ := run_appC u6 W2.heap.size (.slice (some ⟨W2.heap.size, 0, none⟩) 0 0) _ [] C1 29 ((rowC0 W2).step b6) hc6 (by simp; omega) hz6
            have H7 := Lib.hid (H6.grown g7 hz6 (fun z hz => by cases hz; exact Nat.le_refl _))
            rw [List.nil_append] at r7
            obtain ⟨a7, c7, rfl⟩ := row_slice r7
            have R7 := Lib.hid r7
            clear r7 g7 b6 hc6 H6
            go_wp2_with (at_builtin; refine wpList_app rfl (.tmp 139) (.tmp 143) 29 rfl _ _ (.slice a7 C1.length c7) rfl rfl q7 ?_)
            clear q7
            have HC2 := Lib.hid (show cgV l (m + (n1 : Int)) TI = C2 by rw [← HTI.out]; exact FF.out.c2)
            refine (cg_q _ l (m + (n1 : Int)) TI C2 HC2.out _ (L2.out.step H7.out)).mono ?_
            rintro e u8 ⟨a8, k8, rfl, hc8, b8⟩
            have H8 := keep2 b8 H7.out
            have R8 := R7.out.step b8
            obtain ⟨v9, u9, q9, r9, g9⟩ := run_appC u8 W2.heap.size _ _ C1 C2 29 R8 hc8 (by omega) H8.size
            have H9 := Lib.hid (H8.grown g9 H8.size (fun z hz => row_own R8 hz))
            rw [FF.out.app] at r9
            obtain ⟨a9, c9, rfl⟩ := row_slice r9
            have R9 := Lib.hid r9.at
            clear r9 g9 hc8 b8 H8 R8 R7 H7
            go_wp2_with (at_builtin; refine wpList_app rfl (.tmp 144) (.tmp 148) 29 rfl _ _ (.slice a9 C.length c9) rfl rfl q9 ?_)
            clear q9
            refine (quiet_q _ l (m + (k : Int)) _ FF.out.e1 _ (L2.out.step H9.out)).mono ?_
            rintro e u10 ⟨rfl, b10⟩
            have H10 := Lib.hid (keep2 b10 H9.out)
            have R10 := Lib.hid (R9.out.step b10)
            clear b10 R9 H9
            go_wp2_with fail
            refine (same_q _ _ C C _ (eqC_self _) _ (D2.out.step H10.out) R10.out).mono ?_
            rintro e u11 ⟨rfl, b11⟩
            have H11 := Lib.hid (HBW.out.trans ((keep2 b11 H10.out).mono HBW.out.size))
            clear b11
            go_wp2
            go_ret
            exact ⟨rfl, H11.out⟩
        · obtain rfl : i = C.length := by omega
          have HLB := Lib.hid (FF.out.till C.length hi HJ.out (fun h => absurd h (by omega)))
          have L2 := Lib.hid (HQ1.out _ HB.out)
          have D2 := Lib.hid (HQ2.out _ HB.out)
          have HBW := Lib.hid (HBU.out.trans (HB.out.mono HBU.out.size))
          clear HB
          rw [HLB.out]
          go_wp2_with fail
          refine (cg_q _ l m (m + (n1 : Int)) C1 FF.out.c1 _ (L2.out.step (al W2 (.cells #[] 37)))).mono ?_
          rintro e u6 ⟨a6, k6, rfl, hc6, b6⟩
          have hl6 := hlen.2.1
          have hl7 := hlen.2.2
          have hz6 : W2.heap.size ≤ u6.heap.size := by have := b6.size; simp at this; omega
          have H6 := keep2 b6 (al W2 (.cells #[] 37))
          obtain ⟨v7, u7, q7, r7, g7⟩ := run_appC u6 W2.heap.size (.slice (some ⟨W2.heap.size, 0, none⟩) 0 0) _ [] C1 29 ((rowC0 W2).step b6) hc6 (by simp; omega) hz6
          have H7 := Lib.hid (H6.grown g7 hz6 (fun z hz => by cases hz; exact Nat.le_refl _))
          rw [List.nil_append] at r7
          obtain ⟨a7, c7, rfl⟩ := row_slice r7
          have R7 := Lib.hid r7
          clear r7 g7 b6 hc6 H6
          go_wp2_with (at_builtin; refine wpList_app rfl (.tmp 139) (.tmp 143) 29 rfl _ _ (.slice a7 C1.length c7) rfl rfl q7 ?_)
          clear q7
          have HC2 := Lib.hid (show cgV l (m + (n1 : Int)) TI = C2 by rw [← HTI.out]; exact FF.out.c2)
          refine (cg_q _ l (m + (n1 : Int)) TI C2 HC2.out _ (L2.out.step H7.out)).mono ?_
          rintro e u8 ⟨a8, k8, rfl, hc8, b8⟩
          have H8 := keep2 b8 H7.out
          have R8 := R7.out.step b8
          obtain ⟨v9, u9, q9, r9, g9⟩ := run_appC u8 W2.heap.size _ _ C1 C2 29 R8 hc8 (by omega) H8.size
          have H9 := Lib.hid (H8.grown g9 H8.size (fun z hz => row_own R8 hz))
          rw [FF.out.app] at r9
          obtain ⟨a9, c9, rfl⟩ := row_slice r9
          have R9 := Lib.hid r9.at
          clear r9 g9 hc8 b8 H8 R8 R7 H7
          go_wp2_with (at_builtin; refine wpList_app rfl (.tmp 144) (.tmp 148) 29 rfl _ _ (.slice a9 C.length c9) rfl rfl q9 ?_)
          clear q9
          refine (quiet_q _ l (m + (k : Int)) _ FF.out.e1 _ (L2.out.step H9.out)).mono ?_
          rintro e u10 ⟨rfl, b10⟩
          have H10 := Lib.hid (keep2 b10 H9.out)
          have R10 := Lib.hid (R9.out.step b10)
          clear b10 R9 H9
          go_wp2_with fail
          refine (same_q _ _ C C _ (eqC_self _) _ (D2.out.step H10.out) R10.out).mono ?_
          rintro e u11 ⟨rfl, b11⟩
          have H11 := Lib.hid (HBW.out.trans ((keep2 b11 H10.out).mono HBW.out.size))
          clear b11
          go_wp2
          go_ret
          exact ⟨rfl, H11.out⟩
theorem changes_law (v : Value) (l : List (Int × Int)) (m a b r : Int) (w : World) (h : WinsAt w v l) (a0 : 0 ≤ a) (a1 : a ≤ 65535) (b0 : 0 ≤ b) (b1 : b ≤ 65535) (r0 : 0 ≤ r) (r1 : r ≤ 65535) : Calls Try.prog 6 #[v, .int .i64 m, .int .u16 a, .int .u16 b, .int .u16 r] w fun e w' => e = .returned (.bool true) ∧ Below w.heap.size w w' := by
  cases hf : fine l m
  · exact hx_a v l m a b r w h hf
  · obtain ⟨an, rfl⟩ := Int.eq_ofNat_of_zero_le a0
    obtain ⟨bn, rfl⟩ := Int.eq_ofNat_of_zero_le b0
    obtain ⟨rn, rfl⟩ := Int.eq_ofNat_of_zero_le r0
    have g3 := Nat.mod_lt rn (show 0 < an % 7001 + bn % 7001 + 1 by omega)
    exact hx_b v l m an bn rn _ _ _ _ _ _ _ _ w h hf (by omega) (by omega) (by omega) ⟨rfl, rfl, rfl⟩ (facts_any hf (by omega) (by omega) (by omega))
end Go.Proofs.Ytmejpmnipejpiaa
