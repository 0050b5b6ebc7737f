/- Sets of tags: the reference's 'Add', 'Merge', 'Has'. -/
import Derived.Test.YtpoldplmaomkaaaRi
namespace Go.Proofs.Ytpoldplmaomkaaa
open Go.RowKit

theorem add_e {l : List Int} {n : Int} (h1 : stB l = true) (h2 : tgB n = true) : mgE l [n] = if (insL l n).length ≤ 400 then 0 else 30 := by
  unfold mgE; rw [h1, st_one, h2, insL_mg h1]; rfl
theorem fold_e {l m : List Int} (h1 : stB l = true) (h2 : stB m = true) : mgE l m = if (m.foldl insL l).length ≤ 400 then 0 else 30 := by
  unfold mgE; rw [h1, h2, fold_mg h1 h2]; rfl
/-- A list of the argument, or one of the call's own. -/
def LS (w : World) (base : Nat) (wr : World) (u : Value) (l : List Int) : Prop := IntsAt w u l ∨ wr.ownsRow base 3 1 u l.length (l.map (Value.int .i64))
theorem LS.ints {w : World} {base : Nat} {wr : World} {u : Value} {l : List Int} (h : LS w base wr u l) (hb : Below w.heap.size w wr) : IntsAt wr u l := h.elim (fun h => h.step hb) ints_of_row
theorem LS.slice {w : World} {base : Nat} {wr : World} {u : Value} {l : List Int} (h : LS w base wr u l) : ∃ a c, u = .slice a l.length c := by
  rcases h with ⟨a, c, h, -⟩ | h
  · exact ⟨a, c, h⟩
  · exact row_slice h
theorem LS.set {w : World} {base g j : Nat} {wr : World} {u x : Value} {l : List Int} (h : LS w base wr u l) (hb : Below w.heap.size w (wr.setCell ⟨g, j, none⟩ x)) (hg : g < base) : IntsAt (wr.setCell ⟨g, j, none⟩ x) u l :=
  h.elim (fun h => h.step hb) (fun h => ints_of_row (row_other h hg))
theorem foldT {l m : List Int} {k : Nat} (h : k = m.length) : (m.take k).foldl insL l = m.foldl insL l := by rw [h, List.take_length]
set_option maxRecDepth 100000 in
set_option maxHeartbeats 2000000 in
theorem radd_b1 (va : Value) (l : List Int) (n : Int) (w : World) (h : IntsAt w va l) (h1 : stB l = false) : Calls Try.prog 12 #[.agg #[va], .int .i64 n] w fun e w' => e = .returned (.tuple #[.agg #[.slice none 0 0], .int .i64 1]) ∧ Below w.heap.size w w' := by
  have H := Lib.hid h
  obtain ⟨a, cap, rfl, -, -⟩ := h
  have S1 := Lib.hid h1
  clear h1
  have HB0 := Lib.hid (Below.refl w.heap.size w)
  go_enter Try.func12, Try.ntmps12
  have KA_1 := Lib.hid (Cs.new w (w.heap.size) #[.slice a l.length cap] 24 (by simp))
  have HB2 : Hid (Below w.heap.size w (w.alloc (.cells #[.slice a l.length cap] 24))) := HB0.out.alloc HB0.out.size _
  clear HB0
  have KA_3 := Lib.hid (KA_1.out.alloc (.cells #[.slice none 0 0] 24))
  clear KA_1
  have KR_4 := Lib.hid (Cs.new (w.alloc (.cells #[.slice a l.length cap] 24)) (w.heap.size + 1) #[.slice none 0 0] 24 (by simp))
  have HB5 : Hid (Below w.heap.size w ((w.alloc (.cells #[.slice a l.length cap] 24)).alloc (.cells #[.slice none 0 0] 24))) := HB2.out.alloc HB2.out.size _
  clear HB2
  have xA0 : ((w.alloc (.cells #[.slice a l.length cap] 24)).alloc (.cells #[.slice none 0 0] 24)).cell? ⟨w.heap.size, 0, none⟩ = some (.slice a l.length cap) := KA_3.out.c 0 rfl
  have zA : w.heap.size < ((w.alloc (.cells #[.slice a l.length cap] 24)).alloc (.cells #[.slice none 0 0] 24)).heap.size := KA_3.out.2.2
  have z2A : w.heap.size < ((w.alloc (.cells #[.slice a l.length cap] 24)).alloc (.cells #[.slice none 0 0] 24)).heap.size + 1 := by omega
  go_wp2_with fail
  refine (rvalid_any _ l _ (H.out.step HB5.out)).mono ?_
  rintro e u1 ⟨rfl, b1⟩
  clear xA0 zA z2A
  have KA_6 := Lib.hid (KA_3.out.step b1)
  clear KA_3
  have KR_7 := Lib.hid (KR_4.out.step b1)
  clear KR_4
  have HB8 := Lib.hid (keep2 b1 HB5.out)
  clear HB5 b1
  rw [S1.out]
  have xR0 : u1.cell? ⟨w.heap.size + 1, 0, none⟩ = some (.slice none 0 0) := KR_7.out.c 0 rfl
  have yR0 : u1.frozen? ⟨w.heap.size + 1, 0, none⟩ = false := KR_7.out.f 0 (by simp)
  have zR : w.heap.size + 1 < u1.heap.size := KR_7.out.2.2
  have z2R : w.heap.size + 1 < u1.heap.size + 1 := by omega
  go_wp2
  have Q := KR_7.out.set 0 (by simp) (.slice none 0 0) rfl
  have q0 := Q.c 0 rfl
  exact bodyPost_ret (v := .tuple #[.agg #[.slice none 0 0], .int .i64 1]) (by simp [results, Try.results12, go_sem, q0]) rfl ⟨rfl, HB8.out.setCell (by simp) _⟩
set_option maxRecDepth 100000 in
set_option maxHeartbeats 2000000 in
theorem radd_b2 (va : Value) (l : List Int) (n : Int) (w : World) (h : IntsAt w va l) (h1 : stB l = true) (h2 : tgB n = false) : Calls Try.prog 12 #[.agg #[va], .int .i64 n] w fun e w' => e = .returned (.tuple #[.agg #[.slice none 0 0], .int .i64 1]) ∧ Below w.heap.size w w' := by
  have H := Lib.hid h
  obtain ⟨a, cap, rfl, -, -⟩ := h
  have S1 := Lib.hid h1
  clear h1
  have S2 := Lib.hid h2
  clear h2
  have HB0 := Lib.hid (Below.refl w.heap.size w)
  go_enter Try.func12, Try.ntmps12
  have KA_1 := Lib.hid (Cs.new w (w.heap.size) #[.slice a l.length cap] 24 (by simp))
  have HB2 : Hid (Below w.heap.size w (w.alloc (.cells #[.slice a l.length cap] 24))) := HB0.out.alloc HB0.out.size _
  clear HB0
  have KA_3 := Lib.hid (KA_1.out.alloc (.cells #[.slice none 0 0] 24))
  clear KA_1
  have KR_4 := Lib.hid (Cs.new (w.alloc (.cells #[.slice a l.length cap] 24)) (w.heap.size + 1) #[.slice none 0 0] 24 (by simp))
  have HB5 : Hid (Below w.heap.size w ((w.alloc (.cells #[.slice a l.length cap] 24)).alloc (.cells #[.slice none 0 0] 24))) := HB2.out.alloc HB2.out.size _
  clear HB2
  have xA0 : ((w.alloc (.cells #[.slice a l.length cap] 24)).alloc (.cells #[.slice none 0 0] 24)).cell? ⟨w.heap.size, 0, none⟩ = some (.slice a l.length cap) := KA_3.out.c 0 rfl
  have zA : w.heap.size < ((w.alloc (.cells #[.slice a l.length cap] 24)).alloc (.cells #[.slice none 0 0] 24)).heap.size := KA_3.out.2.2
  have z2A : w.heap.size < ((w.alloc (.cells #[.slice a l.length cap] 24)).alloc (.cells #[.slice none 0 0] 24)).heap.size + 1 := by omega
  go_wp2_with fail
  refine (rvalid_any _ l _ (H.out.step HB5.out)).mono ?_
  rintro e u1 ⟨rfl, b1⟩
  clear xA0 zA z2A
  have KA_6 := Lib.hid (KA_3.out.step b1)
  clear KA_3
  have KR_7 := Lib.hid (KR_4.out.step b1)
  clear KR_4
  have HB8 := Lib.hid (keep2 b1 HB5.out)
  clear HB5 b1
  rw [S1.out]
  go_wp2_with fail
  refine (rtag_q n _ S2.out _).mono ?_
  rintro e w' ⟨rfl, rfl⟩
  have xR0 : u1.cell? ⟨w.heap.size + 1, 0, none⟩ = some (.slice none 0 0) := KR_7.out.c 0 rfl
  have yR0 : u1.frozen? ⟨w.heap.size + 1, 0, none⟩ = false := KR_7.out.f 0 (by simp)
  have zR : w.heap.size + 1 < u1.heap.size := KR_7.out.2.2
  have z2R : w.heap.size + 1 < u1.heap.size + 1 := by omega
  go_wp2
  have Q := KR_7.out.set 0 (by simp) (.slice none 0 0) rfl
  have q0 := Q.c 0 rfl
  exact bodyPost_ret (v := .tuple #[.agg #[.slice none 0 0], .int .i64 1]) (by simp [results, Try.results12, go_sem, q0]) rfl ⟨rfl, HB8.out.setCell (by simp) _⟩
set_option maxRecDepth 100000 in
set_option maxHeartbeats 2000000 in
theorem radd_ok (va : Value) (l : List Int) (n : Int) (w : World) (h : IntsAt w va l) (h1 : stB l = true) (h2 : tgB n = true) (hn : (insL l n).length ≤ 400) : Calls Try.prog 12 #[.agg #[va], .int .i64 n] w fun e w' => (∃ u, e = .returned (.tuple #[.agg #[u], .int .i64 0]) ∧ IntsAt w' u (insL l n)) ∧ Below w.heap.size w w' := by
  have H := Lib.hid h
  obtain ⟨a, cap, rfl, -, -⟩ := h
  have S1 := Lib.hid h1
  clear h1
  have S2 := Lib.hid h2
  clear h2
  have SL := Lib.hid (st_iff.1 S1.out).2
  have HB0 := Lib.hid (Below.refl w.heap.size w)
  go_enter Try.func12, Try.ntmps12
  have KA_1 := Lib.hid (Cs.new w (w.heap.size) #[.slice a l.length cap] 24 (by simp))
  have HB2 : Hid (Below w.heap.size w (w.alloc (.cells #[.slice a l.length cap] 24))) := HB0.out.alloc HB0.out.size _
  clear HB0
  have KA_3 := Lib.hid (KA_1.out.alloc (.cells #[.slice none 0 0] 24))
  clear KA_1
  have KR_4 := Lib.hid (Cs.new (w.alloc (.cells #[.slice a l.length cap] 24)) (w.heap.size + 1) #[.slice none 0 0] 24 (by simp))
  have HB5 : Hid (Below w.heap.size w ((w.alloc (.cells #[.slice a l.length cap] 24)).alloc (.cells #[.slice none 0 0] 24))) := HB2.out.alloc HB2.out.size _
  clear HB2
  have xA0 : ((w.alloc (.cells #[.slice a l.length cap] 24)).alloc (.cells #[.slice none 0 0] 24)).cell? ⟨w.heap.size, 0, none⟩ = some (.slice a l.length cap) := KA_3.out.c 0 rfl
  have zA : w.heap.size < ((w.alloc (.cells #[.slice a l.length cap] 24)).alloc (.cells #[.slice none 0 0] 24)).heap.size := KA_3.out.2.2
  have z2A : w.heap.size < ((w.alloc (.cells #[.slice a l.length cap] 24)).alloc (.cells #[.slice none 0 0] 24)).heap.size + 1 := by omega
  go_wp2_with fail
  refine (rvalid_any _ l _ (H.out.step HB5.out)).mono ?_
  rintro e u1 ⟨rfl, b1⟩
  clear xA0 zA z2A
  have KA_6 := Lib.hid (KA_3.out.step b1)
  clear KA_3
  have KR_7 := Lib.hid (KR_4.out.step b1)
  clear KR_4
  have HB8 := Lib.hid (keep2 b1 HB5.out)
  clear HB5 b1
  rw [S1.out]
  go_wp2_with fail
  refine (rtag_q n _ S2.out _).mono ?_
  rintro e w' ⟨rfl, rfl⟩
  have g1 : decide (((insL l n).length : Int) > 400) = false := by simp; omega
  have g2 : decide ((400 : Int) < ((insL l n).length : Int)) = false := by simp; omega
  have xA0 : u1.cell? ⟨w.heap.size, 0, none⟩ = some (.slice a l.length cap) := KA_6.out.c 0 rfl
  have zA : w.heap.size < u1.heap.size := KA_6.out.2.2
  have z2A : w.heap.size < u1.heap.size + 1 := by omega
  go_wp2_with fail
  refine (insert_any _ l n _ (H.out.step HB8.out) (by have := SL.out; omega)).mono ?_
  rintro e u7 ⟨u, rfl, hu, b7⟩
  have HU := Lib.hid hu
  obtain ⟨ua, uc, rfl⟩ := row_slice hu
  clear hu
  have hb0 := Lib.hid (KR_7.out.2.2)
  clear xA0 zA z2A
  have KA_9 := Lib.hid (KA_6.out.step b7)
  clear KA_6
  have KR_10 := Lib.hid (KR_7.out.step b7)
  clear KR_7
  have HB11 := Lib.hid (keep2 b7 HB8.out)
  clear HB8 b7
  obtain ⟨L, hL⟩ : ∃ L, insL l n = L := ⟨_, rfl⟩
  rw [hL] at HU hn g1 g2 ⊢
  replace hL := Lib.hid hL
  replace hn := Lib.hid hn
  have xR0 : u7.cell? ⟨w.heap.size + 1, 0, none⟩ = some (.slice none 0 0) := KR_10.out.c 0 rfl
  have yR0 : u7.frozen? ⟨w.heap.size + 1, 0, none⟩ = false := KR_10.out.f 0 (by simp)
  have zR : w.heap.size + 1 < u7.heap.size := KR_10.out.2.2
  have z2R : w.heap.size + 1 < u7.heap.size + 1 := by omega
  go_wp2
  have Q := KR_10.out.set 0 (by simp) (.slice ua L.length uc) rfl
  have q0 := Q.c 0 rfl
  exact bodyPost_ret (v := .tuple #[.agg #[.slice ua L.length uc], .int .i64 0]) (by simp [results, Try.results12, go_sem, q0]) rfl ⟨⟨_, rfl, by rw [hL.out]; exact ints_of_row (row_other HU.out hb0.out)⟩, HB11.out.setCell (by simp) _⟩
set_option maxRecDepth 100000 in
set_option maxHeartbeats 2000000 in
theorem radd_full (va : Value) (l : List Int) (n : Int) (w : World) (h : IntsAt w va l) (h1 : stB l = true) (h2 : tgB n = true) (hn : ¬ (insL l n).length ≤ 400) : Calls Try.prog 12 #[.agg #[va], .int .i64 n] w fun e w' => e = .returned (.tuple #[.agg #[.slice none 0 0], .int .i64 30]) ∧ Below w.heap.size w w' := by
  have H := Lib.hid h
  obtain ⟨a, cap, rfl, -, -⟩ := h
  have S1 := Lib.hid h1
  clear h1
  have S2 := Lib.hid h2
  clear h2
  have SL := Lib.hid (st_iff.1 S1.out).2
  have HB0 := Lib.hid (Below.refl w.heap.size w)
  go_enter Try.func12, Try.ntmps12
  have KA_1 := Lib.hid (Cs.new w (w.heap.size) #[.slice a l.length cap] 24 (by simp))
  have HB2 : Hid (Below w.heap.size w (w.alloc (.cells #[.slice a l.length cap] 24))) := HB0.out.alloc HB0.out.size _
  clear HB0
  have KA_3 := Lib.hid (KA_1.out.alloc (.cells #[.slice none 0 0] 24))
  clear KA_1
  have KR_4 := Lib.hid (Cs.new (w.alloc (.cells #[.slice a l.length cap] 24)) (w.heap.size + 1) #[.slice none 0 0] 24 (by simp))
  have HB5 : Hid (Below w.heap.size w ((w.alloc (.cells #[.slice a l.length cap] 24)).alloc (.cells #[.slice none 0 0] 24))) := HB2.out.alloc HB2.out.size _
  clear HB2
  have xA0 : ((w.alloc (.cells #[.slice a l.length cap] 24)).alloc (.cells #[.slice none 0 0] 24)).cell? ⟨w.heap.size, 0, none⟩ = some (.slice a l.length cap) := KA_3.out.c 0 rfl
  have zA : w.heap.size < ((w.alloc (.cells #[.slice a l.length cap] 24)).alloc (.cells #[.slice none 0 0] 24)).heap.size := KA_3.out.2.2
  have z2A : w.heap.size < ((w.alloc (.cells #[.slice a l.length cap] 24)).alloc (.cells #[.slice none 0 0] 24)).heap.size + 1 := by omega
  go_wp2_with fail
  refine (rvalid_any _ l _ (H.out.step HB5.out)).mono ?_
  rintro e u1 ⟨rfl, b1⟩
  clear xA0 zA z2A
  have KA_6 := Lib.hid (KA_3.out.step b1)
  clear KA_3
  have KR_7 := Lib.hid (KR_4.out.step b1)
  clear KR_4
  have HB8 := Lib.hid (keep2 b1 HB5.out)
  clear HB5 b1
  rw [S1.out]
  go_wp2_with fail
  refine (rtag_q n _ S2.out _).mono ?_
  rintro e w' ⟨rfl, rfl⟩
  have g1 : decide (((insL l n).length : Int) > 400) = true := by simp; omega
  have g2 : decide ((400 : Int) < ((insL l n).length : Int)) = true := by simp; omega
  have xA0 : u1.cell? ⟨w.heap.size, 0, none⟩ = some (.slice a l.length cap) := KA_6.out.c 0 rfl
  have zA : w.heap.size < u1.heap.size := KA_6.out.2.2
  have z2A : w.heap.size < u1.heap.size + 1 := by omega
  go_wp2_with fail
  refine (insert_any _ l n _ (H.out.step HB8.out) (by have := SL.out; omega)).mono ?_
  rintro e u7 ⟨u, rfl, hu, b7⟩
  have HU := Lib.hid hu
  obtain ⟨ua, uc, rfl⟩ := row_slice hu
  clear hu
  have hb0 := Lib.hid (KR_7.out.2.2)
  clear xA0 zA z2A
  have KA_9 := Lib.hid (KA_6.out.step b7)
  clear KA_6
  have KR_10 := Lib.hid (KR_7.out.step b7)
  clear KR_7
  have HB11 := Lib.hid (keep2 b7 HB8.out)
  clear HB8 b7
  obtain ⟨L, hL⟩ : ∃ L, insL l n = L := ⟨_, rfl⟩
  rw [hL] at HU hn g1 g2 ⊢
  replace hL := Lib.hid hL
  replace hn := Lib.hid hn
  have xR0 : u7.cell? ⟨w.heap.size + 1, 0, none⟩ = some (.slice none 0 0) := KR_10.out.c 0 rfl
  have yR0 : u7.frozen? ⟨w.heap.size + 1, 0, none⟩ = false := KR_10.out.f 0 (by simp)
  have zR : w.heap.size + 1 < u7.heap.size := KR_10.out.2.2
  have z2R : w.heap.size + 1 < u7.heap.size + 1 := by omega
  go_wp2
  have Q := KR_10.out.set 0 (by simp) (.slice none 0 0) rfl
  have q0 := Q.c 0 rfl
  exact bodyPost_ret (v := .tuple #[.agg #[.slice none 0 0], .int .i64 30]) (by simp [results, Try.results12, go_sem, q0]) rfl ⟨rfl, HB11.out.setCell (by simp) _⟩
theorem radd_any (va : Value) (l : List Int) (n : Int) (w : World) (h : IntsAt w va l) : Calls Try.prog 12 #[.agg #[va], .int .i64 n] w fun e w' => (∃ u, e = .returned (.tuple #[.agg #[u], .int .i64 (mgE l [n])]) ∧ IntsAt w' u (mgL l [n])) ∧ Below w.heap.size w w' := by
  cases h1 : stB l
  · have HE : mgE l [n] = 1 := by unfold mgE; simp [h1]
    have HL : mgL l [n] = [] := by unfold mgL; simp [HE]
    rw [HE, HL]
    exact (radd_b1 va l n w h h1).mono fun e w' q => ⟨⟨_, q.1, ints_nil _⟩, q.2⟩
  · cases h2 : tgB n
    · have HE : mgE l [n] = 1 := by unfold mgE; simp [st_one, h2]
      have HL : mgL l [n] = [] := by unfold mgL; simp [HE]
      rw [HE, HL]
      exact (radd_b2 va l n w h h1 h2).mono fun e w' q => ⟨⟨_, q.1, ints_nil _⟩, q.2⟩
    · by_cases hn : (insL l n).length ≤ 400
      · have HE : mgE l [n] = 0 := by rw [add_e h1 h2, if_pos hn]
        have HL : mgL l [n] = insL l n := by unfold mgL; rw [HE, insL_mg h1]; rfl
        rw [HE, HL]
        exact radd_ok va l n w h h1 h2 hn
      · have HE : mgE l [n] = 30 := by rw [add_e h1 h2, if_neg hn]
        have HL : mgL l [n] = [] := by unfold mgL; rw [HE]; rfl
        rw [HE, HL]
        exact (radd_full va l n w h h1 h2 hn).mono fun e w' q => ⟨⟨_, q.1, ints_nil _⟩, q.2⟩
set_option maxRecDepth 100000 in
set_option maxHeartbeats 2000000 in
theorem rmerge_b1 (va vb : Value) (l m : List Int) (w : World) (h : IntsAt w va l) (h' : IntsAt w vb m) (h1 : stB l = false) : Calls Try.prog 14 #[.agg #[va], .agg #[vb]] w fun e w' => e = .returned (.tuple #[.agg #[.slice none 0 0], .int .i64 1]) ∧ Below w.heap.size w w' := by
  have H := Lib.hid h
  have H' := Lib.hid h'
  obtain ⟨a, cap, rfl, -, -⟩ := h
  obtain ⟨a', cap', rfl, -, -⟩ := h'
  have S1 := Lib.hid h1
  clear h1
  have HB0 := Lib.hid (Below.refl w.heap.size w)
  go_enter Try.func14, Try.ntmps14
  have KA_1 := Lib.hid (Cs.new w (w.heap.size) #[.slice a l.length cap] 24 (by simp))
  have HB2 : Hid (Below w.heap.size w (w.alloc (.cells #[.slice a l.length cap] 24))) := HB0.out.alloc HB0.out.size _
  clear HB0
  have KA_3 := Lib.hid (KA_1.out.alloc (.cells #[.slice a' m.length cap'] 24))
  clear KA_1
  have KB_4 := Lib.hid (Cs.new (w.alloc (.cells #[.slice a l.length cap] 24)) (w.heap.size + 1) #[.slice a' m.length cap'] 24 (by simp))
  have HB5 : Hid (Below w.heap.size w ((w.alloc (.cells #[.slice a l.length cap] 24)).alloc (.cells #[.slice a' m.length cap'] 24))) := HB2.out.alloc HB2.out.size _
  clear HB2
  have KA_6 := Lib.hid (KA_3.out.alloc (.cells #[.slice none 0 0] 24))
  clear KA_3
  have KB_7 := Lib.hid (KB_4.out.alloc (.cells #[.slice none 0 0] 24))
  clear KB_4
  have KR_8 := Lib.hid (Cs.new ((w.alloc (.cells #[.slice a l.length cap] 24)).alloc (.cells #[.slice a' m.length cap'] 24)) (w.heap.size + 1 + 1) #[.slice none 0 0] 24 (by simp))
  have HB9 : Hid (Below w.heap.size w (((w.alloc (.cells #[.slice a l.length cap] 24)).alloc (.cells #[.slice a' m.length cap'] 24)).alloc (.cells #[.slice none 0 0] 24))) := HB5.out.alloc HB5.out.size _
  clear HB5
  have xA0 : (((w.alloc (.cells #[.slice a l.length cap] 24)).alloc (.cells #[.slice a' m.length cap'] 24)).alloc (.cells #[.slice none 0 0] 24)).cell? ⟨w.heap.size, 0, none⟩ = some (.slice a l.length cap) := KA_6.out.c 0 rfl
  have zA : w.heap.size < (((w.alloc (.cells #[.slice a l.length cap] 24)).alloc (.cells #[.slice a' m.length cap'] 24)).alloc (.cells #[.slice none 0 0] 24)).heap.size := KA_6.out.2.2
  have z2A : w.heap.size < (((w.alloc (.cells #[.slice a l.length cap] 24)).alloc (.cells #[.slice a' m.length cap'] 24)).alloc (.cells #[.slice none 0 0] 24)).heap.size + 1 := by omega
  go_wp2_with fail
  refine (rvalid_any _ l _ (H.out.step HB9.out)).mono ?_
  rintro e u1 ⟨rfl, b1⟩
  clear xA0 zA z2A
  have KA_10 := Lib.hid (KA_6.out.step b1)
  clear KA_6
  have KB_11 := Lib.hid (KB_7.out.step b1)
  clear KB_7
  have KR_12 := Lib.hid (KR_8.out.step b1)
  clear KR_8
  have HB13 := Lib.hid (keep2 b1 HB9.out)
  clear HB9 b1
  rw [S1.out]
  have xR0 : u1.cell? ⟨w.heap.size + 1 + 1, 0, none⟩ = some (.slice none 0 0) := KR_12.out.c 0 rfl
  have yR0 : u1.frozen? ⟨w.heap.size + 1 + 1, 0, none⟩ = false := KR_12.out.f 0 (by simp)
  have zR : w.heap.size + 1 + 1 < u1.heap.size := KR_12.out.2.2
  have z2R : w.heap.size + 1 + 1 < u1.heap.size + 1 := by omega
  go_wp2
  have Q := KR_12.out.set 0 (by simp) (.slice none 0 0) rfl
  have q0 := Q.c 0 rfl
  exact bodyPost_ret (v := .tuple #[.agg #[.slice none 0 0], .int .i64 1]) (by simp [results, Try.results14, go_sem, q0]) rfl ⟨rfl, HB13.out.setCell (by simp; omega) _⟩
set_option maxRecDepth 100000 in
set_option maxHeartbeats 2000000 in
theorem rmerge_b2 (va vb : Value) (l m : List Int) (w : World) (h : IntsAt w va l) (h' : IntsAt w vb m) (h1 : stB l = true) (h2 : stB m = false) : Calls Try.prog 14 #[.agg #[va], .agg #[vb]] w fun e w' => e = .returned (.tuple #[.agg #[.slice none 0 0], .int .i64 1]) ∧ Below w.heap.size w w' := by
  have H := Lib.hid h
  have H' := Lib.hid h'
  obtain ⟨a, cap, rfl, -, -⟩ := h
  obtain ⟨a', cap', rfl, -, -⟩ := h'
  have S1 := Lib.hid h1
  clear h1
  have S2 := Lib.hid h2
  clear h2
  have HB0 := Lib.hid (Below.refl w.heap.size w)
  go_enter Try.func14, Try.ntmps14
  have KA_1 := Lib.hid (Cs.new w (w.heap.size) #[.slice a l.length cap] 24 (by simp))
  have HB2 : Hid (Below w.heap.size w (w.alloc (.cells #[.slice a l.length cap] 24))) := HB0.out.alloc HB0.out.size _
  clear HB0
  have KA_3 := Lib.hid (KA_1.out.alloc (.cells #[.slice a' m.length cap'] 24))
  clear KA_1
  have KB_4 := Lib.hid (Cs.new (w.alloc (.cells #[.slice a l.length cap] 24)) (w.heap.size + 1) #[.slice a' m.length cap'] 24 (by simp))
  have HB5 : Hid (Below w.heap.size w ((w.alloc (.cells #[.slice a l.length cap] 24)).alloc (.cells #[.slice a' m.length cap'] 24))) := HB2.out.alloc HB2.out.size _
  clear HB2
  have KA_6 := Lib.hid (KA_3.out.alloc (.cells #[.slice none 0 0] 24))
  clear KA_3
  have KB_7 := Lib.hid (KB_4.out.alloc (.cells #[.slice none 0 0] 24))
  clear KB_4
  have KR_8 := Lib.hid (Cs.new ((w.alloc (.cells #[.slice a l.length cap] 24)).alloc (.cells #[.slice a' m.length cap'] 24)) (w.heap.size + 1 + 1) #[.slice none 0 0] 24 (by simp))
  have HB9 : Hid (Below w.heap.size w (((w.alloc (.cells #[.slice a l.length cap] 24)).alloc (.cells #[.slice a' m.length cap'] 24)).alloc (.cells #[.slice none 0 0] 24))) := HB5.out.alloc HB5.out.size _
  clear HB5
  have xA0 : (((w.alloc (.cells #[.slice a l.length cap] 24)).alloc (.cells #[.slice a' m.length cap'] 24)).alloc (.cells #[.slice none 0 0] 24)).cell? ⟨w.heap.size, 0, none⟩ = some (.slice a l.length cap) := KA_6.out.c 0 rfl
  have zA : w.heap.size < (((w.alloc (.cells #[.slice a l.length cap] 24)).alloc (.cells #[.slice a' m.length cap'] 24)).alloc (.cells #[.slice none 0 0] 24)).heap.size := KA_6.out.2.2
  have z2A : w.heap.size < (((w.alloc (.cells #[.slice a l.length cap] 24)).alloc (.cells #[.slice a' m.length cap'] 24)).alloc (.cells #[.slice none 0 0] 24)).heap.size + 1 := by omega
  go_wp2_with fail
  refine (rvalid_any _ l _ (H.out.step HB9.out)).mono ?_
  rintro e u1 ⟨rfl, b1⟩
  clear xA0 zA z2A
  have KA_10 := Lib.hid (KA_6.out.step b1)
  clear KA_6
  have KB_11 := Lib.hid (KB_7.out.step b1)
  clear KB_7
  have KR_12 := Lib.hid (KR_8.out.step b1)
  clear KR_8
  have HB13 := Lib.hid (keep2 b1 HB9.out)
  clear HB9 b1
  rw [S1.out]
  have xB0 : u1.cell? ⟨w.heap.size + 1, 0, none⟩ = some (.slice a' m.length cap') := KB_11.out.c 0 rfl
  have zB : w.heap.size + 1 < u1.heap.size := KB_11.out.2.2
  have z2B : w.heap.size + 1 < u1.heap.size + 1 := by omega
  go_wp2_with fail
  refine (rvalid_any _ m _ (H'.out.step HB13.out)).mono ?_
  rintro e u2 ⟨rfl, b2⟩
  clear xB0 zB z2B
  have KA_14 := Lib.hid (KA_10.out.step b2)
  clear KA_10
  have KB_15 := Lib.hid (KB_11.out.step b2)
  clear KB_11
  have KR_16 := Lib.hid (KR_12.out.step b2)
  clear KR_12
  have HB17 := Lib.hid (keep2 b2 HB13.out)
  clear HB13 b2
  rw [S2.out]
  have xR0 : u2.cell? ⟨w.heap.size + 1 + 1, 0, none⟩ = some (.slice none 0 0) := KR_16.out.c 0 rfl
  have yR0 : u2.frozen? ⟨w.heap.size + 1 + 1, 0, none⟩ = false := KR_16.out.f 0 (by simp)
  have zR : w.heap.size + 1 + 1 < u2.heap.size := KR_16.out.2.2
  have z2R : w.heap.size + 1 + 1 < u2.heap.size + 1 := by omega
  go_wp2
  have Q := KR_16.out.set 0 (by simp) (.slice none 0 0) rfl
  have q0 := Q.c 0 rfl
  exact bodyPost_ret (v := .tuple #[.agg #[.slice none 0 0], .int .i64 1]) (by simp [results, Try.results14, go_sem, q0]) rfl ⟨rfl, HB17.out.setCell (by simp; omega) _⟩
set_option maxRecDepth 100000 in
set_option maxHeartbeats 2000000 in
theorem rmerge_ok (va vb : Value) (l m : List Int) (w : World) (h : IntsAt w va l) (h' : IntsAt w vb m) (h1 : stB l = true) (h2 : stB m = true) (hn : (m.foldl insL l).length ≤ 400) : Calls Try.prog 14 #[.agg #[va], .agg #[vb]] w fun e w' => (∃ u, e = .returned (.tuple #[.agg #[u], .int .i64 0]) ∧ IntsAt w' u (m.foldl insL l)) ∧ Below w.heap.size w w' := by
  have H := Lib.hid h
  have H' := Lib.hid h'
  obtain ⟨a, cap, rfl, -, -⟩ := h
  obtain ⟨a', cap', rfl, -, -⟩ := h'
  have S1 := Lib.hid h1
  clear h1
  have S2 := Lib.hid h2
  clear h2
  have HB0 := Lib.hid (Below.refl w.heap.size w)
  go_enter Try.func14, Try.ntmps14
  have KA_1 := Lib.hid (Cs.new w (w.heap.size) #[.slice a l.length cap] 24 (by simp))
  have HB2 : Hid (Below w.heap.size w (w.alloc (.cells #[.slice a l.length cap] 24))) := HB0.out.alloc HB0.out.size _
  clear HB0
  have KA_3 := Lib.hid (KA_1.out.alloc (.cells #[.slice a' m.length cap'] 24))
  clear KA_1
  have KB_4 := Lib.hid (Cs.new (w.alloc (.cells #[.slice a l.length cap] 24)) (w.heap.size + 1) #[.slice a' m.length cap'] 24 (by simp))
  have HB5 : Hid (Below w.heap.size w ((w.alloc (.cells #[.slice a l.length cap] 24)).alloc (.cells #[.slice a' m.length cap'] 24))) := HB2.out.alloc HB2.out.size _
  clear HB2
  have KA_6 := Lib.hid (KA_3.out.alloc (.cells #[.slice none 0 0] 24))
  clear KA_3
  have KB_7 := Lib.hid (KB_4.out.alloc (.cells #[.slice none 0 0] 24))
  clear KB_4
  have KR_8 := Lib.hid (Cs.new ((w.alloc (.cells #[.slice a l.length cap] 24)).alloc (.cells #[.slice a' m.length cap'] 24)) (w.heap.size + 1 + 1) #[.slice none 0 0] 24 (by simp))
  have HB9 : Hid (Below w.heap.size w (((w.alloc (.cells #[.slice a l.length cap] 24)).alloc (.cells #[.slice a' m.length cap'] 24)).alloc (.cells #[.slice none 0 0] 24))) := HB5.out.alloc HB5.out.size _
  clear HB5
  have xA0 : (((w.alloc (.cells #[.slice a l.length cap] 24)).alloc (.cells #[.slice a' m.length cap'] 24)).alloc (.cells #[.slice none 0 0] 24)).cell? ⟨w.heap.size, 0, none⟩ = some (.slice a l.length cap) := KA_6.out.c 0 rfl
  have zA : w.heap.size < (((w.alloc (.cells #[.slice a l.length cap] 24)).alloc (.cells #[.slice a' m.length cap'] 24)).alloc (.cells #[.slice none 0 0] 24)).heap.size := KA_6.out.2.2
  have z2A : w.heap.size < (((w.alloc (.cells #[.slice a l.length cap] 24)).alloc (.cells #[.slice a' m.length cap'] 24)).alloc (.cells #[.slice none 0 0] 24)).heap.size + 1 := by omega
  go_wp2_with fail
  refine (rvalid_any _ l _ (H.out.step HB9.out)).mono ?_
  rintro e u1 ⟨rfl, b1⟩
  clear xA0 zA z2A
  have KA_10 := Lib.hid (KA_6.out.step b1)
  clear KA_6
  have KB_11 := Lib.hid (KB_7.out.step b1)
  clear KB_7
  have KR_12 := Lib.hid (KR_8.out.step b1)
  clear KR_8
  have HB13 := Lib.hid (keep2 b1 HB9.out)
  clear HB9 b1
  rw [S1.out]
  have xB0 : u1.cell? ⟨w.heap.size + 1, 0, none⟩ = some (.slice a' m.length cap') := KB_11.out.c 0 rfl
  have zB : w.heap.size + 1 < u1.heap.size := KB_11.out.2.2
  have z2B : w.heap.size + 1 < u1.heap.size + 1 := by omega
  go_wp2_with fail
  refine (rvalid_any _ m _ (H'.out.step HB13.out)).mono ?_
  rintro e u2 ⟨rfl, b2⟩
  clear xB0 zB z2B
  have KA_14 := Lib.hid (KA_10.out.step b2)
  clear KA_10
  have KB_15 := Lib.hid (KB_11.out.step b2)
  clear KB_11
  have KR_16 := Lib.hid (KR_12.out.step b2)
  clear KR_12
  have HB17 := Lib.hid (keep2 b2 HB13.out)
  clear HB13 b2
  rw [S2.out]
  have L1 := (st_iff.1 S1.out).2
  have L2 := (st_iff.1 S2.out).2
  have xA0 : u2.cell? ⟨w.heap.size, 0, none⟩ = some (.slice a l.length cap) := KA_14.out.c 0 rfl
  have zA : w.heap.size < u2.heap.size := KA_14.out.2.2
  have z2A : w.heap.size < u2.heap.size + 1 := by omega
  go_wp2_with fail
  clear xA0 zA z2A
  clear KA_14
  have hb0 := Lib.hid (KR_16.out.2.2)
  go_loopw [6, 7] (fun uv i wr => ∃ k : Nat, k ≤ m.length ∧ i = .int .i64 k ∧ Hid (LS w u2.heap.size wr uv ((m.take k).foldl insL l)) ∧ Hid (Below u2.heap.size u2 wr)) (fun _ i _ => m.length - (intOf i).toNat)
  case atStart => exact ⟨0, by omega, rfl, Lib.hid (.inl H.out), Lib.hid (Below.refl _ _)⟩
  case round =>
    obtain ⟨k, hk, rfl, HU, HW⟩ := hrel
    have HBk := Lib.hid (keep2 HW.out HB17.out)
    have KBk := Lib.hid (KB_15.out.step HW.out)
    have KRk := Lib.hid (KR_16.out.step HW.out)
    obtain ⟨ua, uc, rfl⟩ := HU.out.slice
    have y0 := KBk.out.c 0 rfl
    have yz := KBk.out.2.2
    by_cases hlt : k < m.length
    · obtain ⟨a2, cap2, hva, -, hcs⟩ := H'.out.step HBk.out
      obtain ⟨rfl, rfl⟩ : a' = a2 ∧ cap' = cap2 := by simpa using hva
      obtain ⟨b, off, rfl, hcs2⟩ := hcs (by intro h; rw [h] at hlt; simp at hlt)
      have hx := hcs2 k _ (getD_of hlt)
      clear hcs hcs2 hva
      have HT := Lib.hid (fold_take (a := l) hlt)
      have hfl := fold_len (m.take k) l
      rw [List.length_take] at hfl
      have HI := Lib.hid (HU.out.ints HBk.out)
      obtain ⟨L, hL⟩ : ∃ L, (m.take k).foldl insL l = L := ⟨_, rfl⟩
      rw [hL] at HU HT HI hfl ⊢
      clear hL
      have hl9 : L.length ≤ 2000 := by omega
      clear hfl
      generalize m.getD k 0 = x at *
      go_wp2_with fail
      refine (insert_any _ L x _ HI.out hl9).mono ?_
      rintro e u7 ⟨u, rfl, hu, b7⟩
      have HU2 := Lib.hid hu
      obtain ⟨u2, u3, rfl⟩ := row_slice hu
      clear hu
      have HW2 := Lib.hid (keep2 b7 HW.out)
      have hsz := HW.out.size
      clear b7 hx y0
      go_wp2
      go_roundw
      case rel => exact ⟨k + 1, by omega, by go_num, Lib.hid (by rw [HT.out]; exact .inr (row_base HU2.out hsz)), HW2⟩
      case measure => simp [intOf]; omega
    · have hkm : k = m.length := by omega
      rw [foldT (l := l) hkm] at HU ⊢
      obtain ⟨L, hL⟩ : ∃ L, m.foldl insL l = L := ⟨_, rfl⟩
      rw [hL] at HU hn ⊢
      replace hL := Lib.hid hL
      have g1 : decide ((L.length : Int) > 400) = false := by simp; omega
      have g2 : decide ((400 : Int) < (L.length : Int)) = false := by simp; omega
      replace hn := Lib.hid hn
      have r0 := KRk.out.c 0 rfl
      have r1 := KRk.out.f 0 (by simp)
      have r2 := KRk.out.2.2
      go_wp2
      have Q := KRk.out.set 0 (by simp) (.slice ua L.length uc) rfl
      have q0 := Q.c 0 rfl
      exact bodyPost_ret (v := .tuple #[.agg #[.slice ua L.length uc], .int .i64 0]) (by simp [results, Try.results14, go_sem, q0]) rfl ⟨⟨_, rfl, by rw [hL.out]; exact HU.out.set (HBk.out.setCell (by simp; omega) _) hb0.out⟩, HBk.out.setCell (by simp; omega) _⟩
set_option maxRecDepth 100000 in
set_option maxHeartbeats 2000000 in
theorem rmerge_full (va vb : Value) (l m : List Int) (w : World) (h : IntsAt w va l) (h' : IntsAt w vb m) (h1 : stB l = true) (h2 : stB m = true) (hn : ¬ (m.foldl insL l).length ≤ 400) : Calls Try.prog 14 #[.agg #[va], .agg #[vb]] w fun e w' => e = .returned (.tuple #[.agg #[.slice none 0 0], .int .i64 30]) ∧ Below w.heap.size w w' := by
  have H := Lib.hid h
  have H' := Lib.hid h'
  obtain ⟨a, cap, rfl, -, -⟩ := h
  obtain ⟨a', cap', rfl, -, -⟩ := h'
  have S1 := Lib.hid h1
  clear h1
  have S2 := Lib.hid h2
  clear h2
  have HB0 := Lib.hid (Below.refl w.heap.size w)
  go_enter Try.func14, Try.ntmps14
  have KA_1 := Lib.hid (Cs.new w (w.heap.size) #[.slice a l.length cap] 24 (by simp))
  have HB2 : Hid (Below w.heap.size w (w.alloc (.cells #[.slice a l.length cap] 24))) := HB0.out.alloc HB0.out.size _
  clear HB0
  have KA_3 := Lib.hid (KA_1.out.alloc (.cells #[.slice a' m.length cap'] 24))
  clear KA_1
  have KB_4 := Lib.hid (Cs.new (w.alloc (.cells #[.slice a l.length cap] 24)) (w.heap.size + 1) #[.slice a' m.length cap'] 24 (by simp))
  have HB5 : Hid (Below w.heap.size w ((w.alloc (.cells #[.slice a l.length cap] 24)).alloc (.cells #[.slice a' m.length cap'] 24))) := HB2.out.alloc HB2.out.size _
  clear HB2
  have KA_6 := Lib.hid (KA_3.out.alloc (.cells #[.slice none 0 0] 24))
  clear KA_3
  have KB_7 := Lib.hid (KB_4.out.alloc (.cells #[.slice none 0 0] 24))
  clear KB_4
  have KR_8 := Lib.hid (Cs.new ((w.alloc (.cells #[.slice a l.length cap] 24)).alloc (.cells #[.slice a' m.length cap'] 24)) (w.heap.size + 1 + 1) #[.slice none 0 0] 24 (by simp))
  have HB9 : Hid (Below w.heap.size w (((w.alloc (.cells #[.slice a l.length cap] 24)).alloc (.cells #[.slice a' m.length cap'] 24)).alloc (.cells #[.slice none 0 0] 24))) := HB5.out.alloc HB5.out.size _
  clear HB5
  have xA0 : (((w.alloc (.cells #[.slice a l.length cap] 24)).alloc (.cells #[.slice a' m.length cap'] 24)).alloc (.cells #[.slice none 0 0] 24)).cell? ⟨w.heap.size, 0, none⟩ = some (.slice a l.length cap) := KA_6.out.c 0 rfl
  have zA : w.heap.size < (((w.alloc (.cells #[.slice a l.length cap] 24)).alloc (.cells #[.slice a' m.length cap'] 24)).alloc (.cells #[.slice none 0 0] 24)).heap.size := KA_6.out.2.2
  have z2A : w.heap.size < (((w.alloc (.cells #[.slice a l.length cap] 24)).alloc (.cells #[.slice a' m.length cap'] 24)).alloc (.cells #[.slice none 0 0] 24)).heap.size + 1 := by omega
  go_wp2_with fail
  refine (rvalid_any _ l _ (H.out.step HB9.out)).mono ?_
  rintro e u1 ⟨rfl, b1⟩
  clear xA0 zA z2A
  have KA_10 := Lib.hid (KA_6.out.step b1)
  clear KA_6
  have KB_11 := Lib.hid (KB_7.out.step b1)
  clear KB_7
  have KR_12 := Lib.hid (KR_8.out.step b1)
  clear KR_8
  have HB13 := Lib.hid (keep2 b1 HB9.out)
  clear HB9 b1
  rw [S1.out]
  have xB0 : u1.cell? ⟨w.heap.size + 1, 0, none⟩ = some (.slice a' m.length cap') := KB_11.out.c 0 rfl
  have zB : w.heap.size + 1 < u1.heap.size := KB_11.out.2.2
  have z2B : w.heap.size + 1 < u1.heap.size + 1 := by omega
  go_wp2_with fail
  refine (rvalid_any _ m _ (H'.out.step HB13.out)).mono ?_
  rintro e u2 ⟨rfl, b2⟩
  clear xB0 zB z2B
  have KA_14 := Lib.hid (KA_10.out.step b2)
  clear KA_10
  have KB_15 := Lib.hid (KB_11.out.step b2)
  clear KB_11
  have KR_16 := Lib.hid (KR_12.out.step b2)
  clear KR_12
  have HB17 := Lib.hid (keep2 b2 HB13.out)
  clear HB13 b2
  rw [S2.out]
  have L1 := (st_iff.1 S1.out).2
  have L2 := (st_iff.1 S2.out).2
  have xA0 : u2.cell? ⟨w.heap.size, 0, none⟩ = some (.slice a l.length cap) := KA_14.out.c 0 rfl
  have zA : w.heap.size < u2.heap.size := KA_14.out.2.2
  have z2A : w.heap.size < u2.heap.size + 1 := by omega
  go_wp2_with fail
  clear xA0 zA z2A
  clear KA_14
  have hb0 := Lib.hid (KR_16.out.2.2)
  go_loopw [6, 7] (fun uv i wr => ∃ k : Nat, k ≤ m.length ∧ i = .int .i64 k ∧ Hid (LS w u2.heap.size wr uv ((m.take k).foldl insL l)) ∧ Hid (Below u2.heap.size u2 wr)) (fun _ i _ => m.length - (intOf i).toNat)
  case atStart => exact ⟨0, by omega, rfl, Lib.hid (.inl H.out), Lib.hid (Below.refl _ _)⟩
  case round =>
    obtain ⟨k, hk, rfl, HU, HW⟩ := hrel
    have HBk := Lib.hid (keep2 HW.out HB17.out)
    have KBk := Lib.hid (KB_15.out.step HW.out)
    have KRk := Lib.hid (KR_16.out.step HW.out)
    obtain ⟨ua, uc, rfl⟩ := HU.out.slice
    have y0 := KBk.out.c 0 rfl
    have yz := KBk.out.2.2
    by_cases hlt : k < m.length
    · obtain ⟨a2, cap2, hva, -, hcs⟩ := H'.out.step HBk.out
      obtain ⟨rfl, rfl⟩ : a' = a2 ∧ cap' = cap2 := by simpa using hva
      obtain ⟨b, off, rfl, hcs2⟩ := hcs (by intro h; rw [h] at hlt; simp at hlt)
      have hx := hcs2 k _ (getD_of hlt)
      clear hcs hcs2 hva
      have HT := Lib.hid (fold_take (a := l) hlt)
      have hfl := fold_len (m.take k) l
      rw [List.length_take] at hfl
      have HI := Lib.hid (HU.out.ints HBk.out)
      obtain ⟨L, hL⟩ : ∃ L, (m.take k).foldl insL l = L := ⟨_, rfl⟩
      rw [hL] at HU HT HI hfl ⊢
      clear hL
      have hl9 : L.length ≤ 2000 := by omega
      clear hfl
      generalize m.getD k 0 = x at *
      go_wp2_with fail
      refine (insert_any _ L x _ HI.out hl9).mono ?_
      rintro e u7 ⟨u, rfl, hu, b7⟩
      have HU2 := Lib.hid hu
      obtain ⟨u2, u3, rfl⟩ := row_slice hu
      clear hu
      have HW2 := Lib.hid (keep2 b7 HW.out)
      have hsz := HW.out.size
      clear b7 hx y0
      go_wp2
      go_roundw
      case rel => exact ⟨k + 1, by omega, by go_num, Lib.hid (by rw [HT.out]; exact .inr (row_base HU2.out hsz)), HW2⟩
      case measure => simp [intOf]; omega
    · have hkm : k = m.length := by omega
      rw [foldT (l := l) hkm] at HU ⊢
      obtain ⟨L, hL⟩ : ∃ L, m.foldl insL l = L := ⟨_, rfl⟩
      rw [hL] at HU hn ⊢
      replace hL := Lib.hid hL
      have g1 : decide ((L.length : Int) > 400) = true := by simp; omega
      have g2 : decide ((400 : Int) < (L.length : Int)) = true := by simp; omega
      replace hn := Lib.hid hn
      have r0 := KRk.out.c 0 rfl
      have r1 := KRk.out.f 0 (by simp)
      have r2 := KRk.out.2.2
      go_wp2
      have Q := KRk.out.set 0 (by simp) (.slice none 0 0) rfl
      have q0 := Q.c 0 rfl
      exact bodyPost_ret (v := .tuple #[.agg #[.slice none 0 0], .int .i64 30]) (by simp [results, Try.results14, go_sem, q0]) rfl ⟨rfl, HBk.out.setCell (by simp; omega) _⟩
theorem rmerge_any (va vb : Value) (l m : List Int) (w : World) (h : IntsAt w va l) (h' : IntsAt w vb m) : Calls Try.prog 14 #[.agg #[va], .agg #[vb]] w fun e w' => (∃ u, e = .returned (.tuple #[.agg #[u], .int .i64 (mgE l m)]) ∧ IntsAt w' u (mgL l m)) ∧ Below w.heap.size w w' := by
  cases h1 : stB l
  · have HE : mgE l m = 1 := by unfold mgE; simp [h1]
    have HL : mgL l m = [] := by unfold mgL; simp [HE]
    rw [HE, HL]
    exact (rmerge_b1 va vb l m w h h' h1).mono fun e w' q => ⟨⟨_, q.1, ints_nil _⟩, q.2⟩
  · cases h2 : stB m
    · have HE : mgE l m = 1 := by unfold mgE; simp [h2]
      have HL : mgL l m = [] := by unfold mgL; simp [HE]
      rw [HE, HL]
      exact (rmerge_b2 va vb l m w h h' h1 h2).mono fun e w' q => ⟨⟨_, q.1, ints_nil _⟩, q.2⟩
    · by_cases hn : (m.foldl insL l).length ≤ 400
      · have HE : mgE l m = 0 := by rw [fold_e h1 h2, if_pos hn]
        have HL : mgL l m = m.foldl insL l := by unfold mgL; rw [HE, fold_mg h1 h2]; rfl
        rw [HE, HL]
        exact rmerge_ok va vb l m w h h' h1 h2 hn
      · have HE : mgE l m = 30 := by rw [fold_e h1 h2, if_neg hn]
        have HL : mgL l m = [] := by unfold mgL; rw [HE]; rfl
        rw [HE, HL]
        exact (rmerge_full va vb l m w h h' h1 h2 hn).mono fun e w' q => ⟨⟨_, q.1, ints_nil _⟩, q.2⟩
set_option maxRecDepth 100000 in
set_option maxHeartbeats 2000000 in
theorem rhas_any (va : Value) (l : List Int) (t : Int) (w : World) (h : IntsAt w va l) : Calls Try.prog 17 #[.agg #[va], .int .i64 t] w fun e w' => e = .returned (.bool (hsB l t)) ∧ Below w.heap.size w w' := by
  cases h1 : stB l
  · have S1 := Lib.hid h1
    have HR := Lib.hid (show hsB l t = false by unfold hsB; rw [h1]; rfl)
    clear h1
    have H := Lib.hid h
    obtain ⟨a, cap, rfl, -, -⟩ := h
    have HB0 := Lib.hid (Below.refl w.heap.size w)
    go_enter Try.func17, Try.ntmps17
    have KA_1 := Lib.hid (Cs.new w (w.heap.size) #[.slice a l.length cap] 24 (by simp))
    have HB2 : Hid (Below w.heap.size w (w.alloc (.cells #[.slice a l.length cap] 24))) := HB0.out.alloc HB0.out.size _
    clear HB0
    have xA0 : (w.alloc (.cells #[.slice a l.length cap] 24)).cell? ⟨w.heap.size, 0, none⟩ = some (.slice a l.length cap) := KA_1.out.c 0 rfl
    have zA : w.heap.size < (w.alloc (.cells #[.slice a l.length cap] 24)).heap.size := KA_1.out.2.2
    have z2A : w.heap.size < (w.alloc (.cells #[.slice a l.length cap] 24)).heap.size + 1 := by omega
    go_wp2_with fail
    refine (rvalid_any _ l _ (H.out.step HB2.out)).mono ?_
    rintro e u1 ⟨rfl, b1⟩
    clear xA0 zA z2A
    have KA_3 := Lib.hid (KA_1.out.step b1)
    clear KA_1
    have HB4 := Lib.hid (keep2 b1 HB2.out)
    clear HB2 b1
    rw [S1.out]
    go_wp2
    go_ret
    exact ⟨ret_bool HR.out.symm, HB4.out⟩
  · have S1 := Lib.hid h1
    have HR := Lib.hid (show hsB l t = inB l t by unfold hsB; rw [h1]; rfl)
    clear h1
    have H := Lib.hid h
    obtain ⟨a, cap, rfl, -, -⟩ := h
    have HB0 := Lib.hid (Below.refl w.heap.size w)
    go_enter Try.func17, Try.ntmps17
    have KA_1 := Lib.hid (Cs.new w (w.heap.size) #[.slice a l.length cap] 24 (by simp))
    have HB2 : Hid (Below w.heap.size w (w.alloc (.cells #[.slice a l.length cap] 24))) := HB0.out.alloc HB0.out.size _
    clear HB0
    have xA0 : (w.alloc (.cells #[.slice a l.length cap] 24)).cell? ⟨w.heap.size, 0, none⟩ = some (.slice a l.length cap) := KA_1.out.c 0 rfl
    have zA : w.heap.size < (w.alloc (.cells #[.slice a l.length cap] 24)).heap.size := KA_1.out.2.2
    have z2A : w.heap.size < (w.alloc (.cells #[.slice a l.length cap] 24)).heap.size + 1 := by omega
    go_wp2_with fail
    refine (rvalid_any _ l _ (H.out.step HB2.out)).mono ?_
    rintro e u1 ⟨rfl, b1⟩
    clear xA0 zA z2A
    have KA_3 := Lib.hid (KA_1.out.step b1)
    clear KA_1
    have HB4 := Lib.hid (keep2 b1 HB2.out)
    clear HB2 b1
    rw [S1.out]
    have xA0 : u1.cell? ⟨w.heap.size, 0, none⟩ = some (.slice a l.length cap) := KA_3.out.c 0 rfl
    have zA : w.heap.size < u1.heap.size := KA_3.out.2.2
    have z2A : w.heap.size < u1.heap.size + 1 := by omega
    go_wp2_with fail
    refine (in_any _ l t _ (H.out.step HB4.out)).mono ?_
    rintro e w' ⟨rfl, rfl⟩
    go_wp2
    go_ret
    exact ⟨ret_bool HR.out.symm, HB4.out⟩
end Go.Proofs.Ytpoldplmaomkaaa
