/- Shedding: the law of groups. -/
import Derived.Test.YtpablikcidlkaaaTk
import Derived.Test.YtpablikcidlkaaaTg
import Derived.Deep.AppendLies
namespace Go.Proofs.Ytpablikcidlkaaa
open Go.RowKit

def ccs (l : List (Int × Int)) : List Value := l.flatMap fun x => [.int .i64 x.1, .int .i64 x.2]
theorem ccs_snoc (l : List (Int × Int)) (x : Int × Int) : ccs (l ++ [x]) = ccs l ++ [.int .i64 x.1, .int .i64 x.2] := by simp [ccs]
theorem ccs_get (l : List (Int × Int)) : ∀ (i : Nat) (x : Int × Int), l[i]? = some x → ∀ j, j < 2 → (ccs l)[i * 2 + j]? = [Value.int .i64 x.1, .int .i64 x.2][j]? := by
  induction l with
  | nil => intro i x h; simp at h
  | cons y l ih =>
    intro i x h j hj
    have hs : ccs (y :: l) = [.int .i64 y.1, .int .i64 y.2] ++ ccs l := by simp [ccs]
    rw [hs]
    cases i with
    | zero =>
      simp at h; subst h
      rw [List.getElem?_append_left (by simp; omega)]
      simp
    | succ i =>
      rw [List.getElem?_append_right (by simp; omega)]
      have := ih i x (by simpa using h) j hj
      rw [← this]
      congr 1
      simp; omega
theorem cons_of_row {w : World} {base n : Nat} {v : Value} {l : List (Int × Int)} (hn : n = l.length) (h : w.ownsRow base 34 2 v n (ccs l)) : ConsAt w v l := by
  subst hn
  have hc := fun g (hg : v.ownBlock = some g) => h.cells hg
  rcases h.2 with ⟨rfl, h0⟩ | ⟨g, cap, cur, rfl, h1, h2, h3, h4, -⟩
  · have : l = [] := List.length_eq_zero_iff.1 h0
    subst this
    exact ⟨none, 0, rfl, by simp, by simp, fun h => absurd rfl h⟩
  · refine ⟨some ⟨g, 0, none⟩, cap, rfl, h3, by omega, fun _ => ⟨g, 0, rfl, fun i x hi => ?_⟩⟩
    have hj := fun j (hj : j < 2) u (hu : [Value.int .i64 x.1, .int .i64 x.2][j]? = some u) => hc g rfl (i * 2 + j) u ((ccs_get l i x hi j hj).trans hu)
    simp only [Go.WideShapes.add_plain] at hj
    exact ⟨hj 0 (by omega) _ rfl, hj 1 (by omega) _ rfl⟩
theorem info34 : (Try.prog.info? 34).map (fun i => (i.zero, i.size, i.bytes)) = some (some (.agg #[.int .i64 0, .int .i64 0]), 2, 16) := by kernel_rfl
theorem cell_two_at (W : World) (a b : Value) (T : TypeId) : ∀ j u, [a, b][j]? = some u → (W.alloc (.cells #[a, b] T)).cell? ((⟨W.heap.size, 0, none⟩ : Addr).add j) = some u := by
  intro j u hu
  have hadd : (⟨W.heap.size, 0, none⟩ : Addr).add j = ⟨W.heap.size, j, none⟩ := by unfold Addr.add; split <;> simp_all
  rw [hadd, World.cell?_alloc_new]
  simpa using hu
theorem row_slice {W : World} {base : Nat} {e : TypeId} {size : Nat} {v : Value} {k : Nat} {xs : List Value} (h : W.ownsRow base e size v k xs) : ∃ a cap, v = .slice a k cap := by
  rcases h.2 with ⟨rfl, rfl⟩ | ⟨g, cap, _, rfl, _⟩
  · exact ⟨none, 0, rfl⟩
  · exact ⟨_, cap, rfl⟩
/-- Two slices lie in different blocks. -/
def Dis (v u : Value) : Prop := ∀ g, v.ownBlock = some g → u.ownBlock ≠ some g
theorem Dis.symm {v u : Value} (h : Dis v u) : Dis u v := fun g h1 h2 => h g h2 h1
theorem dis_nil (u : Value) : Dis (.slice none 0 0) u := fun g h => by simp [Value.ownBlock] at h
theorem row_kept {w w1 : World} {base e s : Nat} {v u : Value} {n : Nat} {xs : List Value} {o : Obj} (h : w.ownsRow base e s u n xs) (hd : Dis v u) (hg : (w.alloc o).grownBy w1 v.ownBlock) : w1.ownsRow base e s u n xs := by
  refine (h.alloc o).kept hg ?_
  cases hu : u.ownBlock with
  | none => exact .inl rfl
  | some g => exact .inr (fun e => hd g e.symm hu)
theorem dis_new {w : World} {base e s : Nat} {v u : Value} {n : Nat} {xs : List Value} {g c k : Nat} {o : Obj} (h : w.ownsRow base e s u n xs) (hd : Dis v u) (hw : v.ownBlock = some g ∨ g = (w.alloc o).heap.size) : Dis (.slice (some ⟨g, 0, none⟩) k c) u := by
  intro g2 e hu
  obtain rfl : g = g2 := by simpa [Value.ownBlock] using e
  rcases hw with hw | hw
  · exact hd _ hw hu
  · have := (h.lt _ hu).2; rw [hw] at this; simp at this; omega
theorem acB_sub {l s : List (Int × Int)} (h : acB l = true) (hn : s.length ≤ l.length) (hm : ∀ x ∈ s, x ∈ l) : acB s = true := by
  unfold acB at h ⊢
  simp only [Bool.and_eq_true, decide_eq_true_eq, Bool.not_eq_true'] at h ⊢
  refine ⟨by omega, ?_⟩
  rw [List.any_eq_false]
  exact fun x hx => (List.any_eq_false.1 h.2) x (hm x hx)
theorem gC_mem (l : List (Int × Int)) (g : Int) : ∀ x ∈ gC l g l.length, x ∈ l := by
  intro x hx
  unfold gC at hx
  obtain ⟨i, hi, rfl⟩ := List.mem_map.1 hx
  have := (gI_mem hi).1
  rw [show l.getD i (0, 0) = l[i] by simp [this]]
  exact List.getElem_mem _
set_option maxRecDepth 100000 in
set_option maxHeartbeats 8000000 in
theorem groups_any (v : Value) (l : List (Int × Int)) (vb : Value) (bf : List Bool) (x m g : Int) (w : World) (h : ConsAt w v l) (hbf : BosAt w vb bf) (hm0 : 0 ≤ m) (hm1 : m ≤ 4294967295) (hg0 : 0 ≤ g) (hg1 : g ≤ 255) :
    Calls Try.prog 6 #[v, vb, .int .i64 x, .int .u32 m, .int .u8 g] w fun e w' => e = .returned (.bool true) ∧ Below w.heap.size w w' := by
  have HL := Lib.hid h
  have HBF := Lib.hid hbf
  obtain ⟨va, vc, rfl, hml⟩ : ∃ a c, v = .slice a l.length c ∧ l.length ≤ maxLen := (by obtain ⟨a, c, e, _, hm, -⟩ := h; exact ⟨a, c, e, hm⟩)
  obtain ⟨ba, bc, rfl, hbl⟩ : ∃ a c, vb = .slice a bf.length c ∧ bf.length ≤ maxLen := (by obtain ⟨a, c, e, _, h, -⟩ := hbf; exact ⟨a, c, e, h⟩)
  unfold maxLen at hml hbl
  clear h hbf
  obtain ⟨M, hM⟩ : ∃ M, m.tmod 1000000001 = M := ⟨_, rfl⟩
  have hM0 : 0 ≤ M := by rw [← hM, Int.tmod_eq_emod_of_nonneg hm0]; omega
  have hM1 : M ≤ 1000000000 := by rw [← hM, Int.tmod_eq_emod_of_nonneg hm0]; omega
  cases hf : fineB l x
  · have HF := Lib.hid hf
    clear hf hM
    go_enter Try.func6, Try.ntmps6
    go_wp2_with fail
    refine (head_any _).mono ?_
    rintro e w1 ⟨rfl, b⟩
    replace HL := Lib.hid (HL.out.step b)
    have HB := Lib.hid b
    clear b
    go_wp2_with fail
    refine (fine_q _ l x _ HL.out _ HF.out).mono ?_
    rintro e w2 ⟨rfl, b⟩
    replace HB := Lib.hid (keep2 b HB.out)
    clear b
    go_wp2
    go_ret
    exact ⟨by simp, HB.out⟩
  · have HF := Lib.hid hf
    by_cases hn : bf.length = l.length
    · have g1 : ((bf.length : Int) != (l.length : Int)) = false := by simp; omega
      obtain ⟨f1, f2, f3⟩ := fine_parts hf
      have hx := wiB_iff.1 f3
      have HS3 := Lib.hid (show stB l bf x M = true by unfold stB; rw [f2, f3, wiB_iff.2 ⟨hM0, hM1⟩]; simp [hn])
      have HS4 := Lib.hid (show stB (gC l g l.length) (gB l g bf l.length) x M = true by
        unfold stB
        rw [acB_sub f2 (by rw [gC_len]; exact gI_len l g l.length) (gC_mem l g), f3, wiB_iff.2 ⟨hM0, hM1⟩]; simp [gC_len, gB_len])
      have hgr := groups_is l bf x M g
      obtain ⟨K, hK⟩ : ∃ K, kpL l (lim2 bf x M) = K := ⟨_, rfl⟩
      rw [hK] at hgr
      have HGR := Lib.hid hgr
      have HK := Lib.hid hK
      have HNK := Lib.hid (show K.length = l.length by rw [← hK]; exact kp_len _ _)
      have g2 : ((K.length : Int) != (l.length : Int)) = false := by have := HNK.out; simp; omega
      have hk3 : K.length = l.length := HNK.out
      clear hf f2 f3 hK hgr
      replace hn := Lib.hid hn
      replace hk3 := Lib.hid hk3
      obtain ⟨i0, hi, hz0, hz1, hz2⟩ := info_parts info4
      obtain ⟨i1, hj, hy0, hy1, hy2⟩ := info_parts info34
      go_enter Try.func6, Try.ntmps6
      go_wp2_with fail
      refine (head_any _).mono ?_
      rintro e w1 ⟨rfl, b⟩
      replace HL := Lib.hid (HL.out.step b)
      replace HBF := Lib.hid (HBF.out.step b)
      have HB := Lib.hid b
      clear b
      go_wp2_with fail
      refine (fine_q _ l x _ HL.out _ HF.out).mono ?_
      rintro e w2 ⟨rfl, b⟩
      replace HL := Lib.hid (HL.out.step b)
      replace HBF := Lib.hid (HBF.out.step b)
      replace HB := Lib.hid (keep2 b HB.out)
      clear b
      go_wp2_with fail
      refine (step_e _ _ l bf x M _ HL.out HBF.out true K HS3.out HK.out).mono ?_
      rintro e w3 ⟨u3, rfl, r, b⟩
      replace HL := Lib.hid (HL.out.step b)
      replace HBF := Lib.hid (HBF.out.step b)
      replace HB := Lib.hid (keep2 b HB.out)
      have R3 := Lib.hid r
      obtain ⟨ka, kc, rfl, -⟩ := r
      clear b
      go_wp2_with fail
      go_loopw [15, 16, 17, 18] (fun v1 v2 v3 iv wr => ∃ k : Nat, k ≤ l.length ∧ iv = .int .i64 k ∧ Hid (wr.ownsRow w3.heap.size 34 2 v1 (gI l g k).length (ccs (gC l g k))) ∧ Hid (wr.ownsRow w3.heap.size 4 1 v2 (gI l g k).length ((gB l g bf k).map Value.bool)) ∧ Hid (wr.ownsRow w3.heap.size 4 1 v3 (gI l g k).length ((gB l g K k).map Value.bool)) ∧ Hid (Dis v1 v2) ∧ Hid (Dis v1 v3) ∧ Hid (Dis v2 v3) ∧ Hid (Below w3.heap.size w3 wr)) (fun _ _ _ iv _ => l.length - (intOf iv).toNat)
      case atStart => exact ⟨0, by omega, rfl, Lib.hid (World.ownsRow_nil _ _ _ _), Lib.hid (World.ownsRow_nil _ _ _ _), Lib.hid (World.ownsRow_nil _ _ _ _), Lib.hid (dis_nil _), Lib.hid (dis_nil _), Lib.hid (dis_nil _), Lib.hid (Below.refl _ _)⟩
      case round =>
        obtain ⟨k, hk, rfl, HR1, HR2, HR3, HD12, HD13, HD23, HW⟩ := hrel
        have hsz := HW.out.size
        by_cases hlt : k < l.length
        · have hlb : k < bf.length := by have := hn.out; omega
          have hlk : k < K.length := by have := hk3.out; omega
          obtain ⟨a1, c1, hv1, -, -, hcs1⟩ := HL.out
          obtain ⟨a2, c2, hv2, -, -, hcs2⟩ := HBF.out
          obtain ⟨a3, c3, hv3, -, -, hcs3⟩ := R3.out
          obtain ⟨rfl, rfl⟩ : va = a1 ∧ vc = c1 := by simpa using hv1
          obtain ⟨rfl, rfl⟩ : ba = a2 ∧ bc = c2 := by simpa using hv2
          obtain ⟨rfl, rfl⟩ : ka = a3 ∧ kc = c3 := by simpa using hv3
          obtain ⟨b1, o1, rfl, hx1⟩ := hcs1 (by intro e; rw [e] at hlt; simp at hlt)
          obtain ⟨b2, o2, rfl, hx2⟩ := hcs2 (by intro e; rw [e] at hlb; simp at hlb)
          obtain ⟨b3, o3, rfl, hx3⟩ := hcs3 (by intro e; rw [e] at hlk; simp at hlk)
          obtain ⟨p0, p1⟩ := hx1 k _ (win_get (d := (0, 0)) hlt)
          have y0 := hx2 k _ (win_get (d := false) hlb)
          have q0 := hx3 k _ (win_get (d := false) hlk)
          clear hcs1 hcs2 hcs3 hx1 hx2 hx3 hv1 hv2 hv3
          replace p0 := keep1 HW.out p0
          replace p1 := keep1 HW.out p1
          have Z2 := Lib.hid (World.block_lt_of_cell? _ _ y0)
          have Z3 := Lib.hid (World.block_lt_of_cell? _ _ q0)
          have z1 : b1 < wr.heap.size := World.block_lt_of_cell? _ _ p0
          have t2 : (k : Int) < (bf.length : Int) := by omega
          have t3 : (k : Int) < (K.length : Int) := by omega
          have hgl := gI_len l g k
          by_cases hc : g ≤ pri l k
          · have T0 := Lib.hid (show (gI l g (k + 1)).length = (gI l g k).length + 1 by rw [gI_yes hc]; simp)
            have T1 := Lib.hid (gC_yes hc)
            have T2 := Lib.hid (gB_yes bf hc)
            have T3 := Lib.hid (gB_yes K hc)
            have hcb : decide (g ≤ pri l k) = true := decide_eq_true hc
            have HP := Lib.hid (show pri l k = (l.getD k (0, 0)).2 from rfl)
            rw [HP.out] at hcb hc
            obtain ⟨n, hnn⟩ : ∃ n, (gI l g k).length = n := ⟨_, rfl⟩
            rw [hnn] at T0 HR1 HR2 HR3 hgl
            clear hnn HP
            have Y0 := Lib.hid y0
            have Q0 := Lib.hid q0
            clear y0 q0
            generalize l.getD k (0, 0) = xx at *
            obtain ⟨pw, pr⟩ := xx
            generalize bf.getD k false = s at *
            generalize K.getD k false = t at *
            simp only at p0 p1 hc hcb
            have n1 : n + 1 ≤ maxLen := by unfold maxLen; omega
            have n2 : (n + 1) * 1 ≤ 140737488355328 := by omega
            have n3 : (n + 1) * 16 ≤ 140737488355328 := by omega
            go_wp2_with (first | (at_builtin; refine wpList_append_lies _ rfl (.tmp 68) (.tmp 73) 22 rfl w3.heap.size 34 i1 _ 2 16 Try.underlying22 hj hy0 hy1 hy2 rfl (by decide) _ _ _ rfl (HR1.out.alloc _) ⟨wr.heap.size, 0, none⟩ 1 1 [.int .i64 pw, .int .i64 pr] rfl rfl (cell_two_at _ _ _ _) (by simp [Value.oneCell']) (by decide) n1 n3 (by simp; omega) _ rfl ?_; intro gA gAc w5 hown hgrow hwh _; have HA1 := Lib.hid hown; have HA2 := Lib.hid (row_kept HR2.out HD12.out hgrow); have HA3 := Lib.hid (row_kept HR3.out HD13.out hgrow); have HDa := Lib.hid (dis_new (c := gAc) (k := n + 1) HR2.out HD12.out hwh); have HDb := Lib.hid (dis_new (c := gAc) (k := n + 1) HR3.out HD13.out hwh); have HB5 := Lib.hid (below_own (Nat.le_refl _) HW.out HR1.out hgrow); have y5 := keep1 HB5.out Y0.out; have z5 := Nat.lt_of_lt_of_le Z2.out HB5.out.size; have s5 := HB5.out.size; clear hown hgrow hwh) | (at_builtin; refine wpList_append_lies _ rfl (.tmp 75) (.tmp 80) 23 rfl w3.heap.size 4 i0 _ 1 1 Try.underlying23 hi hz0 hz1 hz2 rfl (by decide) _ _ _ rfl (HA2.out.alloc _) ⟨w5.heap.size, 0, none⟩ 1 1 [.bool s] rfl rfl (cell_one_new _ _ _) (by simp [Value.oneCell']) (by decide) n1 n2 (by simp; omega) _ rfl ?_; intro gB gBc w6 hown hgrow hwh _; have HB2 := Lib.hid hown; have HB1 := Lib.hid (row_kept HA1.out HDa.out.symm hgrow); have HB3 := Lib.hid (row_kept HA3.out HD23.out hgrow); have HDc := Lib.hid (dis_new (c := gBc) (k := n + 1) HA1.out HDa.out.symm hwh); have HDd := Lib.hid (dis_new (c := gBc) (k := n + 1) HA3.out HD23.out hwh); have HB6 := Lib.hid (below_own (Nat.le_refl _) HB5.out HA2.out hgrow); have y6 := keep1 HB6.out Q0.out; have z6 := Nat.lt_of_lt_of_le Z3.out HB6.out.size; have s6 := HB6.out.size; clear hown hgrow hwh) | (at_builtin; refine wpList_append_lies _ rfl (.tmp 82) (.tmp 87) 23 rfl w3.heap.size 4 i0 _ 1 1 Try.underlying23 hi hz0 hz1 hz2 rfl (by decide) _ _ _ rfl (HB3.out.alloc _) ⟨w6.heap.size, 0, none⟩ 1 1 [.bool t] rfl rfl (cell_one_new _ _ _) (by simp [Value.oneCell']) (by decide) n1 n2 (by simp; omega) _ rfl ?_; intro gC' gCc w7 hown hgrow hwh _; have HC3 := Lib.hid hown; have HC1 := Lib.hid (row_kept HB1.out HDb.out.symm hgrow); have HC2 := Lib.hid (row_kept HB2.out HDd.out.symm hgrow); have HDe := Lib.hid (dis_new (c := gCc) (k := n + 1) HB1.out HDb.out.symm hwh); have HDf := Lib.hid (dis_new (c := gCc) (k := n + 1) HB2.out HDd.out.symm hwh); have HB7 := Lib.hid (below_own (Nat.le_refl _) HB6.out HB3.out hgrow); clear hown hgrow hwh))
            go_roundw
            case rel => exact ⟨k + 1, hlt, by go_num, Lib.hid (by rw [T0.out, T1.out, ccs_snoc]; exact HC1.out), Lib.hid (by rw [T0.out, T2.out, List.map_append]; exact HC2.out), Lib.hid (by rw [T0.out, T3.out, List.map_append]; exact HC3.out), Lib.hid HDc.out.symm, Lib.hid HDe.out.symm, Lib.hid HDf.out.symm, HB7⟩
            case measure => simp [intOf]; omega
          · have T0 := Lib.hid (show (gI l g (k + 1)).length = (gI l g k).length by rw [gI_no hc])
            have T1 := Lib.hid (gC_no hc)
            have T2 := Lib.hid (gB_no bf hc)
            have T3 := Lib.hid (gB_no K hc)
            have hcb : decide (g ≤ pri l k) = false := decide_eq_false hc
            have HP := Lib.hid (show pri l k = (l.getD k (0, 0)).2 from rfl)
            rw [HP.out] at hcb hc
            clear HP y0 q0
            generalize l.getD k (0, 0) = xx at *
            obtain ⟨pw, pr⟩ := xx
            simp only at p0 p1 hc hcb
            obtain ⟨sa1, sc1, rfl⟩ := row_slice HR1.out
            obtain ⟨sa2, sc2, rfl⟩ := row_slice HR2.out
            obtain ⟨sa3, sc3, rfl⟩ := row_slice HR3.out
            go_wp2
            go_roundw
            case rel => exact ⟨k + 1, hlt, by go_num, Lib.hid (by rw [T0.out, T1.out]; exact HR1.out), Lib.hid (by rw [T0.out, T2.out]; exact HR2.out), Lib.hid (by rw [T0.out, T3.out]; exact HR3.out), HD12, HD13, HD23, HW⟩
            case measure => simp [intOf]; omega
        · obtain rfl : k = l.length := by omega
          have HC1 := Lib.hid (cons_of_row (gC_len l g l.length).symm HR1.out)
          have HC2 := Lib.hid (bos_of_row (gB_len l g bf l.length).symm HR2.out)
          have HC3 := Lib.hid (bos_of_row (gB_len l g K l.length).symm HR3.out)
          obtain ⟨sa1, sc1, rfl⟩ := row_slice HR1.out
          obtain ⟨sa2, sc2, rfl⟩ := row_slice HR2.out
          obtain ⟨sa3, sc3, rfl⟩ := row_slice HR3.out
          replace HB := Lib.hid (keep2 HW.out HB.out)
          clear HR1 HR2 HR3 HD12 HD13 HD23 HW
          go_wp2_with fail
          refine (step_e _ _ (gC l g l.length) (gB l g bf l.length) x M _ HC1.out HC2.out true (gB l g K l.length) HS4.out HGR.out).mono ?_
          rintro e w5 ⟨u5, rfl, r, b⟩
          replace HB := Lib.hid (keep2 b HB.out)
          replace HC3 := Lib.hid (HC3.out.step b)
          have R5 := Lib.hid r
          obtain ⟨ua, uc, rfl, -⟩ := r
          clear b
          go_wp2_with fail
          refine (same_e _ _ _ _ _ R5.out HC3.out true (by simp)).mono ?_
          rintro e w6 ⟨rfl, b⟩
          replace HB := Lib.hid (keep2 b HB.out)
          clear b
          go_wp2
          go_ret
          exact ⟨by simp, HB.out⟩
    · have g1 : ((bf.length : Int) != (l.length : Int)) = true := by simp; omega
      have g2 : ((bf.length : Int) = (l.length : Int)) = False := by simp; omega
      clear hf hM
      replace hn := Lib.hid hn
      go_enter Try.func6, Try.ntmps6
      go_wp2_with fail
      refine (head_any _).mono ?_
      rintro e w1 ⟨rfl, b⟩
      replace HL := Lib.hid (HL.out.step b)
      have HB := Lib.hid b
      clear b
      go_wp2_with fail
      refine (fine_q _ l x _ HL.out _ HF.out).mono ?_
      rintro e w2 ⟨rfl, b⟩
      replace HB := Lib.hid (keep2 b HB.out)
      clear b
      go_wp2
      go_ret
      exact ⟨by simp, HB.out⟩
end Go.Proofs.Ytpablikcidlkaaa
