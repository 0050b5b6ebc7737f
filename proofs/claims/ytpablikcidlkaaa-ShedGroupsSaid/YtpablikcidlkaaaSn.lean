/- Shedding: Keep and Step. -/
import Derived.Test.YtpablikcidlkaaaSm
namespace Go.Proofs.Ytpablikcidlkaaa
open Go.RowKit

theorem run_store_func (P : Program) (w : World) (a : Addr) (m : Mode) (f : Fn) (x y : Array Value) : (store a (.func f x y) m).run P w = stored P w a (.func f x y) m := run_store P w a _ m rfl
attribute [local go_sem] run_store_func
theorem bos_nil (w : World) : BosAt w (.slice none 0 0) [] := ⟨none, 0, rfl, by simp, by simp, fun h => absurd rfl h⟩
/-- What Keep and Step answer. -/
def KpP (l : List (Int × Int)) (lim : Nat → Int) (ok : Bool) (w : World) (e : Ending) (w' : World) : Prop :=
  ∃ u, e = .returned (.tuple #[u, .int .i64 (cond ok 0 1)]) ∧ BosAt w' u (cond ok (kpL l lim) []) ∧ Below w.heap.size w w'
theorem wiB_iff {n m : Int} : wiB n m = true ↔ 0 ≤ n ∧ n ≤ m := by unfold wiB; simp
set_option maxRecDepth 100000 in
set_option maxHeartbeats 2000000 in
theorem keep_q (v : Value) (l : List (Int × Int)) (x : Int) (w : World) (h : ConsAt w v l) : Calls Try.prog 11 #[v, .int .i64 x] w (KpP l (fun _ => x) (acB l && wiB x 1000000000) w) := by
  have HB0 := Lib.hid (al w (.cells #[.int .i64 x] 3))
  have HL := Lib.hid (h.step HB0.out)
  have HLB := Lib.hid (BoxN.new w #[.int .i64 x] 3 rfl)
  obtain ⟨va, vc, rfl⟩ : ∃ a c, v = .slice a l.length c := (by obtain ⟨a, c, e, -⟩ := h; exact ⟨a, c, e⟩)
  clear h
  cases h1 : acB l
  · have H1 := Lib.hid h1
    clear h1
    go_enter Try.func11, Try.ntmps11
    go_wp2_with fail
    refine (are_q _ l _ HL.out _ H1.out).mono ?_
    rintro e w1 ⟨rfl, b1⟩
    have HB1 := Lib.hid (keep2 b1 HB0.out)
    clear b1
    go_wp2
    go_ret2
    exact ⟨_, rfl, bos_nil _, HB1.out⟩
  · cases h2 : wiB x 1000000000
    · have H1 := Lib.hid h1
      have H2 := Lib.hid h2
      clear h1 h2
      go_enter Try.func11, Try.ntmps11
      go_wp2_with fail
      refine (are_q _ l _ HL.out _ H1.out).mono ?_
      rintro e w1 ⟨rfl, b1⟩
      have HB1 := Lib.hid (keep2 b1 HB0.out)
      have c0 := ((HLB.out.step b1).cell 0).trans (rfl : _ = some (Value.int .i64 x))
      clear b1
      go_wp2_with fail
      refine (within_q x 1000000000 _ H2.out _).mono ?_
      rintro e w' ⟨rfl, rfl⟩
      go_wp2
      go_ret2
      exact ⟨_, rfl, bos_nil _, HB1.out⟩
    · have H1 := Lib.hid h1
      have H2 := Lib.hid h2
      have HX := Lib.hid (wiB_iff.1 h2)
      have HN := Lib.hid (acB_len h1)
      have HP := Lib.hid (acB_pow h1)
      clear h1 h2
      go_enter Try.func11, Try.ntmps11
      go_wp2_with fail
      refine (are_q _ l _ HL.out _ H1.out).mono ?_
      rintro e w1 ⟨rfl, b1⟩
      have HB1 := Lib.hid (keep2 b1 HB0.out)
      have HL1 := Lib.hid (HL.out.step b1)
      have HLB1 := Lib.hid (HLB.out.step b1)
      have c0 := ((HLB.out.step b1).cell 0).trans (rfl : _ = some (Value.int .i64 x))
      clear b1 HL HB0 HLB
      go_wp2_with fail
      refine (within_q x 1000000000 _ H2.out _).mono ?_
      rintro e w' ⟨rfl, rfl⟩
      go_wp2_with fail
      have hal := al w1 (.cells #[.func (.func 23) #[] #[.pointer (some ⟨w.heap.size, 0, none⟩)]] 45)
      have hlb2 := HLB1.out.step hal
      refine (keep_any l va vc (fun _ => x) 23 #[.pointer (some ⟨w.heap.size, 0, none⟩)] _ (HL1.out.step hal) (by have := HN.out; omega) HP.out (fun W hb i hi => lim1_any _ x _ W (hlb2.step hb)) (fun i => by have := HX.out; omega) (fun _ _ => by kernel_rfl)).mono ?_
      rintro e w2 ⟨g, s, rfl, hg, hbx, hs, b2⟩
      have HB2 := Lib.hid (keep2 b2 (keep2 hal HB1.out))
      have HR := Lib.hid (show BosAt w2 (.slice (some ⟨g, 0, none⟩) l.length l.length) (kpL l fun _ => x) by
        rw [← kp_is hs]
        exact bos_box hbx (by rw [kfo_len]) (by have := HN.out; omega))
      clear b2 hal hlb2 hbx hs hg HLB1 HL1 HB1 c0
      go_wp2
      go_ret2
      exact ⟨_, rfl, HR.out, HB2.out⟩
theorem three (w : World) (v1 v2 v3 : Array Value) (t1 t2 t3 : TypeId) : (BoxN (((w.alloc (.cells v1 t1)).alloc (.cells v2 t2)).alloc (.cells v3 t3)) w.heap.size v1 t1 ∧ BoxN (((w.alloc (.cells v1 t1)).alloc (.cells v2 t2)).alloc (.cells v3 t3)) (w.heap.size + 1) v2 t2 ∧ BoxN (((w.alloc (.cells v1 t1)).alloc (.cells v2 t2)).alloc (.cells v3 t3)) (w.heap.size + 1 + 1) v3 t3) :=
  ⟨((BoxN.new w v1 t1 rfl).step (al _ _)).step (al _ _), (BoxN.new _ v2 t2 (by simp)).step (al _ _), BoxN.new _ v3 t3 (by simp)⟩
def stB (l : List (Int × Int)) (bf : List Bool) (x m : Int) : Bool := acB l && decide (bf.length = l.length) && wiB x 1000000000 && wiB m 1000000000
set_option maxRecDepth 100000 in
set_option maxHeartbeats 4000000 in
theorem step_q (v vb : Value) (l : List (Int × Int)) (bf : List Bool) (x m : Int) (w : World) (h : ConsAt w v l) (hbf : BosAt w vb bf) : Calls Try.prog 13 #[v, vb, .int .i64 x, .int .i64 m] w (KpP l (lim2 bf x m) (stB l bf x m) w) := by
  obtain ⟨va, vc, rfl⟩ : ∃ a c, v = .slice a l.length c := (by obtain ⟨a, c, e, -⟩ := h; exact ⟨a, c, e⟩)
  obtain ⟨ba, bc, rfl, hml⟩ : ∃ a c, vb = .slice a bf.length c ∧ bf.length ≤ maxLen := (by obtain ⟨a, c, e, _, h, -⟩ := hbf; exact ⟨a, c, e, h⟩)
  have HB0 := Lib.hid (al3 (w := w) (o1 := .cells #[.slice ba bf.length bc] 23) (o2 := .cells #[.int .i64 x] 3) (o3 := .cells #[.int .i64 m] 3))
  have HL := Lib.hid (h.step HB0.out)
  have HBF := Lib.hid (hbf.step HB0.out)
  have HT := Lib.hid (three w #[.slice ba bf.length bc] #[.int .i64 x] #[.int .i64 m] 23 3 3)
  unfold maxLen at hml
  clear h hbf
  cases h1 : acB l
  · have HR := Lib.hid (show stB l bf x m = false by unfold stB; simp [h1])
    have H1 := Lib.hid h1
    clear h1
    go_enter Try.func13, Try.ntmps13
    go_wp2_with fail
    refine (are_q _ l _ HL.out _ H1.out).mono ?_
    rintro e w1 ⟨rfl, b1⟩
    have HB1 := Lib.hid (keep2 b1 HB0.out)
    have HL1 := Lib.hid (HL.out.step b1)
    have HBF1 := Lib.hid (HBF.out.step b1)
    have HT0 := Lib.hid (HT.out.1.step b1)
    have HT1 := Lib.hid (HT.out.2.1.step b1)
    have HT2 := Lib.hid (HT.out.2.2.step b1)
    have c0 := (HT0.out.cell 0).trans (rfl : _ = some (Value.slice ba bf.length bc))
    have c1 := (HT1.out.cell 0).trans (rfl : _ = some (Value.int .i64 x))
    have c2 := (HT2.out.cell 0).trans (rfl : _ = some (Value.int .i64 m))
    clear b1 HL HBF HT HB0
    go_wp2
    go_ret2
    rw [HR.out]
    exact ⟨_, rfl, bos_nil _, HB1.out⟩
  · by_cases hn : bf.length = l.length
    · have g1 : ((bf.length : Int) != (l.length : Int)) = false := by simp; omega
      cases h2 : wiB x 1000000000
      · have HR := Lib.hid (show stB l bf x m = false by unfold stB; simp [h2])
        have H1 := Lib.hid h1
        have H2 := Lib.hid h2
        clear h1 h2
        replace hn := Lib.hid hn
        go_enter Try.func13, Try.ntmps13
        go_wp2_with fail
        refine (are_q _ l _ HL.out _ H1.out).mono ?_
        rintro e w1 ⟨rfl, b1⟩
        have HB1 := Lib.hid (keep2 b1 HB0.out)
        have HL1 := Lib.hid (HL.out.step b1)
        have HBF1 := Lib.hid (HBF.out.step b1)
        have HT0 := Lib.hid (HT.out.1.step b1)
        have HT1 := Lib.hid (HT.out.2.1.step b1)
        have HT2 := Lib.hid (HT.out.2.2.step b1)
        have c0 := (HT0.out.cell 0).trans (rfl : _ = some (Value.slice ba bf.length bc))
        have c1 := (HT1.out.cell 0).trans (rfl : _ = some (Value.int .i64 x))
        have c2 := (HT2.out.cell 0).trans (rfl : _ = some (Value.int .i64 m))
        clear b1 HL HBF HT HB0
        go_wp2_with fail
        refine (within_q x 1000000000 _ H2.out _).mono ?_
        rintro e w' ⟨rfl, rfl⟩
        go_wp2
        go_ret2
        rw [HR.out]
        exact ⟨_, rfl, bos_nil _, HB1.out⟩
      · cases h3 : wiB m 1000000000
        · have HR := Lib.hid (show stB l bf x m = false by unfold stB; simp [h3])
          have H1 := Lib.hid h1
          have H2 := Lib.hid h2
          have H3 := Lib.hid h3
          clear h1 h2 h3
          replace hn := Lib.hid hn
          go_enter Try.func13, Try.ntmps13
          go_wp2_with fail
          refine (are_q _ l _ HL.out _ H1.out).mono ?_
          rintro e w1 ⟨rfl, b1⟩
          have HB1 := Lib.hid (keep2 b1 HB0.out)
          have HL1 := Lib.hid (HL.out.step b1)
          have HBF1 := Lib.hid (HBF.out.step b1)
          have HT0 := Lib.hid (HT.out.1.step b1)
          have HT1 := Lib.hid (HT.out.2.1.step b1)
          have HT2 := Lib.hid (HT.out.2.2.step b1)
          have c0 := (HT0.out.cell 0).trans (rfl : _ = some (Value.slice ba bf.length bc))
          have c1 := (HT1.out.cell 0).trans (rfl : _ = some (Value.int .i64 x))
          have c2 := (HT2.out.cell 0).trans (rfl : _ = some (Value.int .i64 m))
          clear b1 HL HBF HT HB0
          go_wp2_with fail
          refine (within_q x 1000000000 _ H2.out _).mono ?_
          rintro e w' ⟨rfl, rfl⟩
          go_wp2_with fail
          refine (within_q m 1000000000 _ H3.out _).mono ?_
          rintro e w' ⟨rfl, rfl⟩
          go_wp2
          go_ret2
          rw [HR.out]
          exact ⟨_, rfl, bos_nil _, HB1.out⟩
        · have HR := Lib.hid (show stB l bf x m = true by unfold stB; simp [h1, h2, h3, hn])
          have H1 := Lib.hid h1
          have H2 := Lib.hid h2
          have H3 := Lib.hid h3
          have HX := Lib.hid (wiB_iff.1 h2)
          have HM := Lib.hid (wiB_iff.1 h3)
          have HN := Lib.hid (acB_len h1)
          have HP := Lib.hid (acB_pow h1)
          clear h1 h2 h3
          replace hn := Lib.hid hn
          go_enter Try.func13, Try.ntmps13
          go_wp2_with fail
          refine (are_q _ l _ HL.out _ H1.out).mono ?_
          rintro e w1 ⟨rfl, b1⟩
          have HB1 := Lib.hid (keep2 b1 HB0.out)
          have HL1 := Lib.hid (HL.out.step b1)
          have HBF1 := Lib.hid (HBF.out.step b1)
          have HT0 := Lib.hid (HT.out.1.step b1)
          have HT1 := Lib.hid (HT.out.2.1.step b1)
          have HT2 := Lib.hid (HT.out.2.2.step b1)
          have c0 := (HT0.out.cell 0).trans (rfl : _ = some (Value.slice ba bf.length bc))
          have c1 := (HT1.out.cell 0).trans (rfl : _ = some (Value.int .i64 x))
          have c2 := (HT2.out.cell 0).trans (rfl : _ = some (Value.int .i64 m))
          clear b1 HL HBF HT HB0
          go_wp2_with fail
          refine (within_q x 1000000000 _ H2.out _).mono ?_
          rintro e w' ⟨rfl, rfl⟩
          go_wp2_with fail
          refine (within_q m 1000000000 _ H3.out _).mono ?_
          rintro e w' ⟨rfl, rfl⟩
          go_wp2_with fail
          have hal := al w1 (.cells #[.func (.func 25) #[] #[.pointer (some ⟨w.heap.size, 0, none⟩), .pointer (some ⟨w.heap.size + 1, 0, none⟩), .pointer (some ⟨w.heap.size + 1 + 1, 0, none⟩)]] 45)
          have q0 := HT0.out.step hal
          have q1 := HT1.out.step hal
          have q2 := HT2.out.step hal
          have qb := HBF1.out.step hal
          refine (keep_any l va vc (lim2 bf x m) 25 #[.pointer (some ⟨w.heap.size, 0, none⟩), .pointer (some ⟨w.heap.size + 1, 0, none⟩), .pointer (some ⟨w.heap.size + 1 + 1, 0, none⟩)] _ (HL1.out.step hal) (by have := HN.out; omega) HP.out (fun W hb i hi => lim2_any i x m _ bf _ _ _ W (qb.step hb) (by rw [hn.out]; exact hi) (q0.step hb) (q1.step hb) (q2.step hb) HX.out HM.out) (fun i => by have := HX.out; have := HM.out; unfold lim2; split <;> omega) (fun _ _ => by kernel_rfl)).mono ?_
          rintro e w2 ⟨g, s, rfl, hg, hbx, hs, b2⟩
          have HB2 := Lib.hid (keep2 b2 (keep2 hal HB1.out))
          have HRR := Lib.hid (show BosAt w2 (.slice (some ⟨g, 0, none⟩) l.length l.length) (kpL l (lim2 bf x m)) by
            rw [← kp_is hs]
            exact bos_box hbx (by rw [kfo_len]) (by have := HN.out; omega))
          clear b2 hal q0 q1 q2 qb hbx hs hg HT0 HT1 HT2 HL1 HBF1 HB1 c0 c1 c2
          go_wp2
          go_ret2
          rw [HR.out]
          exact ⟨_, rfl, HRR.out, HB2.out⟩
    · have g1 : ((bf.length : Int) != (l.length : Int)) = true := by simp; omega
      have g2 : ((bf.length : Int) = (l.length : Int)) = False := by simp; omega
      have HR := Lib.hid (show stB l bf x m = false by unfold stB; simp [hn])
      have H1 := Lib.hid h1
      clear h1
      replace hn := Lib.hid hn
      go_enter Try.func13, Try.ntmps13
      go_wp2_with fail
      refine (are_q _ l _ HL.out _ H1.out).mono ?_
      rintro e w1 ⟨rfl, b1⟩
      have HB1 := Lib.hid (keep2 b1 HB0.out)
      have HL1 := Lib.hid (HL.out.step b1)
      have HBF1 := Lib.hid (HBF.out.step b1)
      have HT0 := Lib.hid (HT.out.1.step b1)
      have HT1 := Lib.hid (HT.out.2.1.step b1)
      have HT2 := Lib.hid (HT.out.2.2.step b1)
      have c0 := (HT0.out.cell 0).trans (rfl : _ = some (Value.slice ba bf.length bc))
      have c1 := (HT1.out.cell 0).trans (rfl : _ = some (Value.int .i64 x))
      have c2 := (HT2.out.cell 0).trans (rfl : _ = some (Value.int .i64 m))
      clear b1 HL HBF HT HB0
      go_wp2
      go_ret2
      rw [HR.out]
      exact ⟨_, rfl, bos_nil _, HB1.out⟩
end Go.Proofs.Ytpablikcidlkaaa
