/- The reference's 'Accept'. -/
import Derived.Deep.AppendLies
import Derived.Maps.AppendAt
import Derived.Test.YtkamkkjijjkfdaaPg
namespace Go.Proofs.Ytkamkkjijjkfdaa
open Go.RowKit

theorem row_own {w : World} {base e s : Nat} {v : Value} {n k : Nat} {xs : List Value} (h : w.ownsRow base e s v n xs) (hk : v.ownBlock = some k) : base ≤ k := by
  rcases h.2 with ⟨h1, -⟩ | ⟨g, cap, cur, h1, h2, -⟩
  · rw [h1] at hk; cases hk
  · rw [h1] at hk; cases hk; exact h2
/-- A window under way. -/
def FW (n0 F : Nat) (M : Int) (L : List Bool) (W : World) : Prop := ∃ bv, Cs W F #[.int .i64 M, bv] ∧ W.ownsRow n0 4 1 bv L.length (L.map Value.bool)
theorem row_capF {w : World} {base e s n c : Nat} {a : Option Addr} {xs : List Value} (h : w.ownsRow base e s (.slice a n c) n xs) : n ≤ c := by
  rcases h.2 with ⟨e, h0⟩ | ⟨g, cap, cur, e, h1, h2, h3, h4, -⟩
  · omega
  · cases e; exact h3
/-- What an accepted number makes of a window. -/
theorem acc_get {t : Int} {L : List Bool} {s M : Int} (hw : WF t L) (hs0 : 0 ≤ s) (hs1 : s ≤ 1000000) (hM : M = if t < s then s else t) (hok : t < s ∨ (t - s < 16 ∧ L.getD (t - s).toNat false = false)) (i : Nat) (hi : i < 16) :
    (accL t L s).getD i false = ((decide (M - i ≤ t) && L.getD (t - (M - i)).toNat false) || decide (M - i = s)) ∧ (M - i ≤ t → 0 ≤ t - (M - i) ∧ t - (M - i) < 16) := by
  obtain ⟨h1, h2, h3, h4, h5⟩ := hw
  unfold accL
  rw [if_neg (by omega)]
  by_cases hts : t < s
  · rw [if_pos hts] at hM ⊢
    subst hM
    refine ⟨?_, fun h => by omega⟩
    rw [shL_get _ _ _ hi]
    by_cases hd : (M - t).toNat ≤ i
    · rw [decide_eq_true hd, decide_eq_true (show M - i ≤ t by omega), Bool.true_and, Bool.true_and, show (t - (M - i)).toNat = i - (M - t).toNat by omega]
      have e1 : (i == 0) = false := by simp; omega
      have e2 : decide (M - (i : Int) = M) = false := by simp; omega
      rw [e1, e2, Bool.false_or, Bool.or_false]
    · rw [decide_eq_false hd, decide_eq_false (show ¬ M - i ≤ t by omega), Bool.false_and, Bool.false_and, Bool.or_false, Bool.false_or]
      by_cases e : i = 0
      · subst e; simp
      · have e1 : (i == 0) = false := by simpa using e
        have e2 : decide (M - (i : Int) = M) = false := by simp; omega
        rw [e1, e2]
  · rw [if_neg hts] at hM ⊢
    subst hM
    obtain ⟨g1, g2⟩ := hok.resolve_left hts
    rw [if_neg (by omega), if_neg (by rw [g2]; simp)]
    refine ⟨?_, fun h => by omega⟩
    rw [decide_eq_true (show M - i ≤ M by omega), Bool.true_and, show (M - (M - (i : Int))).toNat = i by omega]
    have hl : (M - s).toNat < L.length := by omega
    simp only [List.getD_eq_getElem?_getD, List.getElem?_set]
    by_cases e : (M - s).toNat = i
    · rw [if_pos e, if_pos (by omega), decide_eq_true (show M - (i : Int) = s by omega)]
      simp
    · rw [if_neg e, decide_eq_false (show ¬ M - (i : Int) = s by omega), Bool.or_false]
theorem accL_len {t : Int} {L : List Bool} (s : Int) (h : L.length = 16) : (accL t L s).length = 16 := by
  unfold accL
  split
  · exact h
  · split
    · exact shL_len _ _
    · split
      · exact h
      · split
        · exact h
        · simp [h]
set_option maxRecDepth 100000 in
set_option maxHeartbeats 8000000 in
theorem raccept_no (t : Int) (a : Option Addr) (n c : Nat) (L : List Bool) (seq : Int) (w : World) (h : BosAt w (.slice a n c) L) (hn : L.length = n) (hcp : n ≤ c) (hw : ¬ WF t L) : Calls Try.prog 35 #[.agg #[.int .i64 t, .slice a n c], .int .i64 seq] w (AcP w t L 1) := by
  have HH := Lib.hid h
  have HNW := Lib.hid hw
  have HC0 := Lib.hid ((Cs.new w w.heap.size #[.int .i64 t, .slice a n c] 27 rfl).alloc (.cells #[.int .i64 0, .slice none 0 0] 27))
  have HR0 := Lib.hid (Cs.new (w.alloc (.cells #[.int .i64 t, .slice a n c] 27)) (w.heap.size + 1) #[.int .i64 0, .slice none 0 0] 27 (by simp))
  have HB0 := Lib.hid (al2 (w := w) (o1 := .cells #[.int .i64 t, .slice a n c] 27) (o2 := .cells #[.int .i64 0, .slice none 0 0] 27))
  have HL0 := Lib.hid (h.step HB0.out)
  obtain ⟨W, hW⟩ : ∃ z, (w.alloc (.cells #[.int .i64 t, .slice a n c] 27)).alloc (.cells #[.int .i64 0, .slice none 0 0] 27) = z := ⟨_, rfl⟩
  rw [hW] at HC0 HR0 HB0 HL0
  have HW := Lib.hid hW
  clear hW h
  have c0 := HC0.out.c 0 rfl
  have c1 := HC0.out.c 1 rfl
  have cz := HC0.out.2.2
  clear hw
  go_enter Try.func35, Try.ntmps35
  go_upto_region 1 with fail
  rw [HW.out]
  go_wp2_with fail
  refine (rwin_no t a n c L _ HL0.out hn HNW.out).mono ?_
  rintro e w2 ⟨rfl, b2⟩
  have HC2 := Lib.hid (HC0.out.step b2)
  have HR2 := Lib.hid (HR0.out.step b2)
  have HB2 := Lib.hid (keep2 b2 HB0.out)
  have HL2 := Lib.hid (HL0.out.step b2)
  clear b2 c0 c1 cz HC0 HR0 HB0 HL0
  have c0 := HC2.out.c 0 rfl
  have c1 := HC2.out.c 1 rfl
  have cz := HC2.out.2.2
  have r0 := HR2.out.c 0 rfl
  have r1 := HR2.out.c 1 rfl
  have rz := HR2.out.2.2
  have rf0 := HR2.out.f 0 (by simp)
  have rf1 := HR2.out.f 1 (by simp)
  go_wp2_with fail
  refine (fun (h : ∀ V : World, Cs V (w.heap.size + 1) #[.int .i64 t, .slice a n c] → Below w.heap.size w V → bodyPost Try.prog Try.f35 _ Exit.ret _ V) => h _ (Cs.set (Cs.set HR2.out 0 (by simp) (.int .i64 t) rfl) 1 (by simp) (.slice a n c) (vs' := #[.int .i64 t, .slice a n c]) rfl) ((HB2.out.setCell (p := ⟨w.heap.size + 1, 0, none⟩) (Nat.le_succ _) _).setCell (p := ⟨w.heap.size + 1, 1, none⟩) (Nat.le_succ _) _)) ?_
  intro V hC hB
  have k0 : V.cell? ⟨w.heap.size + 1, 0, none⟩ = some (.int .i64 t) := hC.c 0 rfl
  have k1 : V.cell? ⟨w.heap.size + 1, 1, none⟩ = some (.slice a n c) := hC.c 1 rfl
  exact bodyPost_ret (v := .tuple #[.agg #[.int .i64 t, .slice a n c], .int .i64 1]) (by simp [results, Try.results35, go_sem, k0, k1]) rfl (AcP.mk hn hcp (HH.out.step hB) hB)
set_option maxRecDepth 100000 in
set_option maxHeartbeats 8000000 in
theorem raccept_rng (t : Int) (a : Option Addr) (c : Nat) (L : List Bool) (seq : Int) (w : World) (h : BosAt w (.slice a 16 c) L) (hw : WF t L) (hcp : 16 ≤ c) (hs : (decide (0 ≤ seq) && decide (seq ≤ 1000000)) = false) : Calls Try.prog 35 #[.agg #[.int .i64 t, .slice a 16 c], .int .i64 seq] w (AcP w t L 1) := by
  have HH := Lib.hid h
  have HWF := Lib.hid hw
  have hn := hw.1
  have HC0 := Lib.hid ((Cs.new w w.heap.size #[.int .i64 t, .slice a 16 c] 27 rfl).alloc (.cells #[.int .i64 0, .slice none 0 0] 27))
  have HR0 := Lib.hid (Cs.new (w.alloc (.cells #[.int .i64 t, .slice a 16 c] 27)) (w.heap.size + 1) #[.int .i64 0, .slice none 0 0] 27 (by simp))
  have HB0 := Lib.hid (al2 (w := w) (o1 := .cells #[.int .i64 t, .slice a 16 c] 27) (o2 := .cells #[.int .i64 0, .slice none 0 0] 27))
  have HL0 := Lib.hid (h.step HB0.out)
  obtain ⟨W, hW⟩ : ∃ z, (w.alloc (.cells #[.int .i64 t, .slice a 16 c] 27)).alloc (.cells #[.int .i64 0, .slice none 0 0] 27) = z := ⟨_, rfl⟩
  rw [hW] at HC0 HR0 HB0 HL0
  have HW := Lib.hid hW
  clear hW h
  have c0 := HC0.out.c 0 rfl
  have c1 := HC0.out.c 1 rfl
  have cz := HC0.out.2.2
  clear hw
  have HS := Lib.hid hs
  clear hs
  go_enter Try.func35, Try.ntmps35
  go_upto_region 1 with fail
  rw [HW.out]
  go_wp2_with fail
  refine (rwin_yes t a c L _ HL0.out HWF.out).mono ?_
  rintro e w2 ⟨rfl, b2⟩
  have HC2 := Lib.hid (HC0.out.step b2)
  have HR2 := Lib.hid (HR0.out.step b2)
  have HB2 := Lib.hid (keep2 b2 HB0.out)
  have HL2 := Lib.hid (HL0.out.step b2)
  clear b2 c0 c1 cz HC0 HR0 HB0 HL0
  have c0 := HC2.out.c 0 rfl
  have c1 := HC2.out.c 1 rfl
  have cz := HC2.out.2.2
  have r0 := HR2.out.c 0 rfl
  have r1 := HR2.out.c 1 rfl
  have rz := HR2.out.2.2
  have rf0 := HR2.out.f 0 (by simp)
  have rf1 := HR2.out.f 1 (by simp)
  go_wp2_with fail
  refine (rbtw_q seq 0 1000000 false HS.out _).mono ?_
  rintro e w' ⟨rfl, rfl⟩
  go_wp2_with fail
  refine (fun (h : ∀ V : World, Cs V (w.heap.size + 1) #[.int .i64 t, .slice a 16 c] → Below w.heap.size w V → bodyPost Try.prog Try.f35 _ Exit.ret _ V) => h _ (Cs.set (Cs.set HR2.out 0 (by simp) (.int .i64 t) rfl) 1 (by simp) (.slice a 16 c) (vs' := #[.int .i64 t, .slice a 16 c]) rfl) ((HB2.out.setCell (p := ⟨w.heap.size + 1, 0, none⟩) (Nat.le_succ _) _).setCell (p := ⟨w.heap.size + 1, 1, none⟩) (Nat.le_succ _) _)) ?_
  intro V hC hB
  have k0 : V.cell? ⟨w.heap.size + 1, 0, none⟩ = some (.int .i64 t) := hC.c 0 rfl
  have k1 : V.cell? ⟨w.heap.size + 1, 1, none⟩ = some (.slice a 16 c) := hC.c 1 rfl
  exact bodyPost_ret (v := .tuple #[.agg #[.int .i64 t, .slice a 16 c], .int .i64 1]) (by simp [results, Try.results35, go_sem, k0, k1]) rfl (AcP.mk hn hcp (HH.out.step hB) hB)
set_option maxRecDepth 100000 in
set_option maxHeartbeats 8000000 in
theorem raccept_old (t : Int) (a : Option Addr) (c : Nat) (L : List Bool) (seq : Int) (w : World) (h : BosAt w (.slice a 16 c) L) (hw : WF t L) (hcp : 16 ≤ c) (hs : (decide (0 ≤ seq) && decide (seq ≤ 1000000)) = true) (hst : seq ≤ t) (hf : 16 ≤ t - seq) : Calls Try.prog 35 #[.agg #[.int .i64 t, .slice a 16 c], .int .i64 seq] w (AcP w t L 16) := by
  have HH := Lib.hid h
  have HWF := Lib.hid hw
  have hn := hw.1
  have HC0 := Lib.hid ((Cs.new w w.heap.size #[.int .i64 t, .slice a 16 c] 27 rfl).alloc (.cells #[.int .i64 0, .slice none 0 0] 27))
  have HR0 := Lib.hid (Cs.new (w.alloc (.cells #[.int .i64 t, .slice a 16 c] 27)) (w.heap.size + 1) #[.int .i64 0, .slice none 0 0] 27 (by simp))
  have HB0 := Lib.hid (al2 (w := w) (o1 := .cells #[.int .i64 t, .slice a 16 c] 27) (o2 := .cells #[.int .i64 0, .slice none 0 0] 27))
  have HL0 := Lib.hid (h.step HB0.out)
  obtain ⟨W, hW⟩ : ∃ z, (w.alloc (.cells #[.int .i64 t, .slice a 16 c] 27)).alloc (.cells #[.int .i64 0, .slice none 0 0] 27) = z := ⟨_, rfl⟩
  rw [hW] at HC0 HR0 HB0 HL0
  have HW := Lib.hid hW
  clear hW h
  have c0 := HC0.out.c 0 rfl
  have c1 := HC0.out.c 1 rfl
  have cz := HC0.out.2.2
  clear hw
  have HS := Lib.hid hs
  have q1 : decide (seq ≤ t) = true := decide_eq_true hst
  have q2 : wrap64 (t - seq) = t - seq := IntWalk.wrap64_in _ (by simp at hs; have := HWF.out.2.2.1; omega)
  have q3 : decide (t - seq ≥ 16) = true := by simp; omega
  have q4 : decide (16 ≤ t - seq) = true := by simp; omega
  clear hs
  go_enter Try.func35, Try.ntmps35
  go_upto_region 1 with fail
  rw [HW.out]
  go_wp2_with fail
  refine (rwin_yes t a c L _ HL0.out HWF.out).mono ?_
  rintro e w2 ⟨rfl, b2⟩
  have HC2 := Lib.hid (HC0.out.step b2)
  have HR2 := Lib.hid (HR0.out.step b2)
  have HB2 := Lib.hid (keep2 b2 HB0.out)
  have HL2 := Lib.hid (HL0.out.step b2)
  clear b2 c0 c1 cz HC0 HR0 HB0 HL0
  have c0 := HC2.out.c 0 rfl
  have c1 := HC2.out.c 1 rfl
  have cz := HC2.out.2.2
  have r0 := HR2.out.c 0 rfl
  have r1 := HR2.out.c 1 rfl
  have rz := HR2.out.2.2
  have rf0 := HR2.out.f 0 (by simp)
  have rf1 := HR2.out.f 1 (by simp)
  go_wp2_with fail
  refine (rbtw_q seq 0 1000000 true HS.out _).mono ?_
  rintro e w' ⟨rfl, rfl⟩
  go_wp2_with fail
  refine (fun (h : ∀ V : World, Cs V (w.heap.size + 1) #[.int .i64 t, .slice a 16 c] → Below w.heap.size w V → bodyPost Try.prog Try.f35 _ Exit.ret _ V) => h _ (Cs.set (Cs.set HR2.out 0 (by simp) (.int .i64 t) rfl) 1 (by simp) (.slice a 16 c) (vs' := #[.int .i64 t, .slice a 16 c]) rfl) ((HB2.out.setCell (p := ⟨w.heap.size + 1, 0, none⟩) (Nat.le_succ _) _).setCell (p := ⟨w.heap.size + 1, 1, none⟩) (Nat.le_succ _) _)) ?_
  intro V hC hB
  have k0 : V.cell? ⟨w.heap.size + 1, 0, none⟩ = some (.int .i64 t) := hC.c 0 rfl
  have k1 : V.cell? ⟨w.heap.size + 1, 1, none⟩ = some (.slice a 16 c) := hC.c 1 rfl
  exact bodyPost_ret (v := .tuple #[.agg #[.int .i64 t, .slice a 16 c], .int .i64 16]) (by simp [results, Try.results35, go_sem, k0, k1]) rfl (AcP.mk hn hcp (HH.out.step hB) hB)
set_option maxRecDepth 100000 in
set_option maxHeartbeats 8000000 in
theorem raccept_seen (t : Int) (a : Option Addr) (c : Nat) (L : List Bool) (seq : Int) (w : World) (h : BosAt w (.slice a 16 c) L) (hw : WF t L) (hcp : 16 ≤ c) (hs : (decide (0 ≤ seq) && decide (seq ≤ 1000000)) = true) (hst : seq ≤ t) (d : Nat) (hd : t - seq = d) (hd16 : d < 16) (hz : L.getD d false = true) : Calls Try.prog 35 #[.agg #[.int .i64 t, .slice a 16 c], .int .i64 seq] w (AcP w t L 16) := by
  have HH := Lib.hid h
  have HWF := Lib.hid hw
  have hn := hw.1
  have HC0 := Lib.hid ((Cs.new w w.heap.size #[.int .i64 t, .slice a 16 c] 27 rfl).alloc (.cells #[.int .i64 0, .slice none 0 0] 27))
  have HR0 := Lib.hid (Cs.new (w.alloc (.cells #[.int .i64 t, .slice a 16 c] 27)) (w.heap.size + 1) #[.int .i64 0, .slice none 0 0] 27 (by simp))
  have HB0 := Lib.hid (al2 (w := w) (o1 := .cells #[.int .i64 t, .slice a 16 c] 27) (o2 := .cells #[.int .i64 0, .slice none 0 0] 27))
  have HL0 := Lib.hid (h.step HB0.out)
  obtain ⟨W, hW⟩ : ∃ z, (w.alloc (.cells #[.int .i64 t, .slice a 16 c] 27)).alloc (.cells #[.int .i64 0, .slice none 0 0] 27) = z := ⟨_, rfl⟩
  rw [hW] at HC0 HR0 HB0 HL0
  have HW := Lib.hid hW
  clear hW h
  have c0 := HC0.out.c 0 rfl
  have c1 := HC0.out.c 1 rfl
  have cz := HC0.out.2.2
  clear hw
  have HS := Lib.hid hs
  have q1 : decide (seq ≤ t) = true := decide_eq_true hst
  have q2 : wrap64 (t - seq) = d := by rw [IntWalk.wrap64_in _ (by omega)]; exact hd
  have q3 : decide ((d : Int) ≥ 16) = false := by simp; omega
  have q4 : decide (16 ≤ (d : Int)) = false := by simp; omega
  have q5 : (d : Int) < 16 := by omega
  have HD := Lib.hid hd
  have HZ := Lib.hid hz
  clear hs hd hz
  go_enter Try.func35, Try.ntmps35
  go_upto_region 1 with fail
  rw [HW.out]
  go_wp2_with fail
  refine (rwin_yes t a c L _ HL0.out HWF.out).mono ?_
  rintro e w2 ⟨rfl, b2⟩
  have HC2 := Lib.hid (HC0.out.step b2)
  have HR2 := Lib.hid (HR0.out.step b2)
  have HB2 := Lib.hid (keep2 b2 HB0.out)
  have HL2 := Lib.hid (HL0.out.step b2)
  clear b2 c0 c1 cz HC0 HR0 HB0 HL0
  obtain ⟨a', c', hv, -, hcs⟩ := HL2.out
  obtain ⟨rfl, -, rfl⟩ : a = a' ∧ 16 = L.length ∧ c = c' := by simpa using hv
  obtain ⟨b, off, rfl, -⟩ := hcs (by intro e; rw [e] at hn; simp at hn)
  clear hv hcs
  have y0 := bos_get HL2.out d (by omega)
  rw [HZ.out] at y0
  have yz : b < w2.heap.size := World.block_lt_of_cell? _ _ y0
  have c0 := HC2.out.c 0 rfl
  have c1 := HC2.out.c 1 rfl
  have cz := HC2.out.2.2
  have r0 := HR2.out.c 0 rfl
  have r1 := HR2.out.c 1 rfl
  have rz := HR2.out.2.2
  have rf0 := HR2.out.f 0 (by simp)
  have rf1 := HR2.out.f 1 (by simp)
  go_wp2_with fail
  refine (rbtw_q seq 0 1000000 true HS.out _).mono ?_
  rintro e w' ⟨rfl, rfl⟩
  go_wp2_with fail
  refine (fun (h : ∀ V : World, Cs V (w.heap.size + 1) #[.int .i64 t, .slice (some ⟨b, off, none⟩) 16 c] → Below w.heap.size w V → bodyPost Try.prog Try.f35 _ Exit.ret _ V) => h _ (Cs.set (Cs.set HR2.out 0 (by simp) (.int .i64 t) rfl) 1 (by simp) (.slice (some ⟨b, off, none⟩) 16 c) (vs' := #[.int .i64 t, .slice (some ⟨b, off, none⟩) 16 c]) rfl) ((HB2.out.setCell (p := ⟨w.heap.size + 1, 0, none⟩) (Nat.le_succ _) _).setCell (p := ⟨w.heap.size + 1, 1, none⟩) (Nat.le_succ _) _)) ?_
  intro V hC hB
  have k0 : V.cell? ⟨w.heap.size + 1, 0, none⟩ = some (.int .i64 t) := hC.c 0 rfl
  have k1 : V.cell? ⟨w.heap.size + 1, 1, none⟩ = some (.slice (some ⟨b, off, none⟩) 16 c) := hC.c 1 rfl
  exact bodyPost_ret (v := .tuple #[.agg #[.int .i64 t, .slice (some ⟨b, off, none⟩) 16 c], .int .i64 16]) (by simp [results, Try.results35, go_sem, k0, k1]) rfl (AcP.mk hn hcp (HH.out.step hB) hB)
set_option maxRecDepth 100000 in
set_option maxHeartbeats 8000000 in
theorem raccept_new (t : Int) (a : Option Addr) (c : Nat) (L : List Bool) (seq : Int) (w : World) (h : BosAt w (.slice a 16 c) L) (hw : WF t L) (_ : 16 ≤ c) (hs : (decide (0 ≤ seq) && decide (seq ≤ 1000000)) = true) (hst : t < seq) : Calls Try.prog 35 #[.agg #[.int .i64 t, .slice a 16 c], .int .i64 seq] w (AcP w seq (accL t L seq) 0) := by
  have HH := Lib.hid h
  have HWF := Lib.hid hw
  have hn := hw.1
  have HC0 := Lib.hid ((Cs.new w w.heap.size #[.int .i64 t, .slice a 16 c] 27 rfl).alloc (.cells #[.int .i64 0, .slice none 0 0] 27))
  have HR0 := Lib.hid (Cs.new (w.alloc (.cells #[.int .i64 t, .slice a 16 c] 27)) (w.heap.size + 1) #[.int .i64 0, .slice none 0 0] 27 (by simp))
  have HB0 := Lib.hid (al2 (w := w) (o1 := .cells #[.int .i64 t, .slice a 16 c] 27) (o2 := .cells #[.int .i64 0, .slice none 0 0] 27))
  have HL0 := Lib.hid (h.step HB0.out)
  obtain ⟨W, hW⟩ : ∃ z, (w.alloc (.cells #[.int .i64 t, .slice a 16 c] 27)).alloc (.cells #[.int .i64 0, .slice none 0 0] 27) = z := ⟨_, rfl⟩
  rw [hW] at HC0 HR0 HB0 HL0
  have HW := Lib.hid hW
  clear hW h
  have c0 := HC0.out.c 0 rfl
  have c1 := HC0.out.c 1 rfl
  have cz := HC0.out.2.2
  clear hw
  have HS := Lib.hid hs
  have hsb : 0 ≤ seq ∧ seq ≤ 1000000 := by simpa using hs
  have HSB := Lib.hid hsb
  have HTB := Lib.hid (show -1 ≤ t ∧ t ≤ 1000000 from ⟨HWF.out.2.1, HWF.out.2.2.1⟩)
  have hLn := Lib.hid hn
  have q1 : decide (seq ≤ t) = false := by simp; omega
  have q2 : ¬ seq ≤ t := by omega
  have q3 : t < seq := by omega
  have hMe : seq = if t < seq then seq else t := by rw [if_pos q3]
  have hok : t < seq ∨ (t - seq < 16 ∧ L.getD (t - seq).toNat false = false) := .inl q3
  have HAC := Lib.hid (fun i hi => acc_get HWF.out hsb.1 hsb.2 (M := seq) hMe hok i hi)
  have HAL := Lib.hid (accL_len (t := t) (L := L) seq hn)
  have HMB := Lib.hid (show 0 ≤ seq ∧ seq ≤ 1000000 by have := HTB.out; rw [hMe]; split <;> omega)
  clear hs hsb hMe hok
  go_enter Try.func35, Try.ntmps35
  go_upto_region 1 with fail
  rw [HW.out]
  go_wp2_with fail
  refine (rwin_yes t a c L _ HL0.out HWF.out).mono ?_
  rintro e w2 ⟨rfl, b2⟩
  have HC2 := Lib.hid (HC0.out.step b2)
  have HR2 := Lib.hid (HR0.out.step b2)
  have HB2 := Lib.hid (keep2 b2 HB0.out)
  have HL2 := Lib.hid (HL0.out.step b2)
  clear b2 c0 c1 cz HC0 HR0 HB0 HL0
  obtain ⟨a', c', hv, -, hcs⟩ := HL2.out
  obtain ⟨rfl, -, rfl⟩ : a = a' ∧ 16 = L.length ∧ c = c' := by simpa using hv
  obtain ⟨b, off, rfl, -⟩ := hcs (by intro e; rw [e] at hn; simp at hn)
  clear hv hcs
  have c0 := HC2.out.c 0 rfl
  have c1 := HC2.out.c 1 rfl
  have cz := HC2.out.2.2
  go_wp2_with fail
  refine (rbtw_q seq 0 1000000 true HS.out _).mono ?_
  rintro e w' ⟨rfl, rfl⟩
  go_wp2_with fail
  obtain ⟨A, hA⟩ : ∃ z, accL t L seq = z := ⟨_, rfl⟩
  rw [hA] at HAC HAL
  have HA := Lib.hid hA
  clear hA
  have HF3 := Lib.hid (Cs.new w2 w2.heap.size #[.int .i64 seq, .slice none 0 0] 27 rfl)
  have HC3 := Lib.hid (HC2.out.alloc (.cells #[.int .i64 seq, .slice none 0 0] 27))
  have HR3 := Lib.hid (HR2.out.alloc (.cells #[.int .i64 seq, .slice none 0 0] 27))
  have HB3 := Lib.hid (HB2.out.alloc HB2.out.size (.cells #[.int .i64 seq, .slice none 0 0] 27))
  have HZ := Lib.hid (show w.heap.size + 1 < w2.heap.size from HR2.out.2.2)
  obtain ⟨F, hF⟩ : ∃ z, w2.heap.size = z := ⟨_, rfl⟩
  obtain ⟨W3, hW3⟩ : ∃ z, w2.alloc (.cells #[.int .i64 seq, .slice none 0 0] 27) = z := ⟨_, rfl⟩
  have HZ3 := Lib.hid (show F + 1 ≤ W3.heap.size by rw [← hW3, ← hF]; simp)
  have HFE := Lib.hid hF
  have HB23 := Lib.hid (show Below F w2 W3 by rw [← hW3, ← hF]; exact al w2 _)
  rw [hW3] at HF3 HC3 HR3 HB3 ⊢
  rw [hF] at HF3 HZ ⊢
  clear hW3 hF
  clear c0 c1 cz HC2 HR2 HB2
  have HFB := Lib.hid (show FW (F + 1) F seq [] W3 from ⟨_, HF3.out, World.ownsRow_nil _ _ _ _⟩)
  obtain ⟨i0, hi, hz0, hz1, hz2⟩ := info_parts infoBo
  have HI := Lib.hid (show _ ∧ _ ∧ _ ∧ _ from ⟨hi, hz0, hz1, hz2⟩)
  clear HF3 hi hz0 hz1 hz2
  go_loopw [7] (fun iv wr => ∃ k : Nat, k ≤ 16 ∧ iv = .int .i64 k ∧ Hid (FW (F + 1) F seq (A.take k) wr) ∧ Hid (Below F W3 wr)) (fun iv _ => 16 - (intOf iv).toNat)
  case atStart => exact ⟨0, by omega, rfl, Lib.hid (by rw [List.take_zero]; exact HFB.out), Lib.hid (Below.refl _ _)⟩
  case round =>
    clear HFB
    obtain ⟨k, hk, rfl, HF, HW⟩ := hrel
    have hkw : wrap64 ((k : Int) + 1) = k + 1 := IntWalk.wrap64_in _ (by omega)
    have HK8 := Lib.hid (show ((k + 1 : Nat) : Int) = (k : Int) + 1 by omega)
    have HC4 := Lib.hid (HC3.out.low HW.out (by have := HZ.out; omega))
    have HR4 := Lib.hid (HR3.out.low HW.out (by have := HZ.out; omega))
    have HB4 := Lib.hid (HB3.out.trans (HW.out.mono (by have := HZ.out; omega)))
    obtain ⟨bv, hC, hrow⟩ := HF.out
    have HLL := Lib.hid (show (A.take k).length = k by rw [List.length_take, HAL.out]; omega)
    rw [HLL.out] at hrow
    obtain ⟨ba, bc, rfl⟩ := row_slice hrow
    have HRW := Lib.hid hrow
    have HCF := Lib.hid hC
    have f0 := hC.c 0 rfl
    have f1 := hC.c 1 rfl
    have fz := hC.2.2
    have c0 := HC4.out.c 0 rfl
    have c1 := HC4.out.c 1 rfl
    have cz := HC4.out.2.2
    clear hC hrow
    by_cases hlt : k < 16
    · have t1 : (k : Int) < 16 := by omega
      have t2 : decide ((k : Int) < 16) = true := by simp; omega
      have hac := (HAC.out k hlt).1
      have hin := (HAC.out k hlt).2
      have HT := Lib.hid (show A.take (k + 1) = A.take k ++ [A.getD k false] by rw [List.take_succ_eq_append_getElem (by rw [HAL.out]; exact hlt)]; simp [HAL.out, hlt])
      obtain ⟨n, hn⟩ : ∃ n, seq - (k : Int) = n := ⟨_, rfl⟩
      rw [hn] at hac hin
      have wq1 : wrap64 (seq - (k : Int)) = n := by rw [IntWalk.wrap64_in _ (by have := HMB.out; omega)]; exact hn
      obtain ⟨r, hr⟩ : ∃ r, A.getD k false = r := ⟨_, rfl⟩
      rw [hr] at hac HT
      have HLT := Lib.hid hlt
      have k1 : k + 1 ≤ maxLen := by unfold maxLen; omega
      have k2 : (k + 1) * 1 ≤ 140737488355328 := by omega
      have hB6 := Lib.hid (al wr (.cells #[.bool r] 4))
      have HR6 := Lib.hid (row_step HRW.out hB6.out)
      have k3 := Lib.hid (show F + 1 ≤ (wr.alloc (.cells #[.bool r] 4)).heap.size from Nat.le_trans (Nat.le_trans HZ3.out HW.out.size) hB6.out.size)
      have HBW := Lib.hid (hB6.out.mono (Nat.le_trans HZ3.out HW.out.size))
      replace hr := Lib.hid hr
      by_cases hnt : n ≤ t
      · obtain ⟨h1, h2⟩ := hin hnt
        obtain ⟨j, hj⟩ : ∃ j : Nat, t - n = j := ⟨(t - n).toNat, by omega⟩
        have wq2 : wrap64 (t - n) = j := by rw [IntWalk.wrap64_in _ (by omega)]; exact hj
        have g1 : decide (n ≤ t) = true := decide_eq_true hnt
        have g2 : decide ((j : Int) < 16) = true := by simp; omega
        have g3 : (j : Int) < 16 := by omega
        have hj16 : j < 16 := by omega
        have y0 := bos_get (HL2.out.step (show Below w2.heap.size w2 wr by rw [HFE.out]; exact HB23.out.trans HW.out)) j (by rw [hLn.out]; exact hj16)
        have yz := World.block_lt_of_cell? _ _ y0
        rw [g1, Bool.true_and, hj, Int.toNat_natCast] at hac
        obtain ⟨z, hz⟩ : ∃ z, L.getD j false = z := ⟨_, rfl⟩
        rw [hz] at hac y0
        clear hj hz hn h1 h2 hin
        cases z
        · rw [Bool.false_or] at hac
          have g4 : (n == seq) = r := by rw [hac]; rfl
          have g5 : decide (n = seq) = r := hac.symm
          clear hac
          go_wp2_with (at_builtin; refine wpList_append_lies _ rfl (.tmp 76) (.tmp 83) 25 rfl (F + 1) 4 i0 _ 1 1 Try.underlying25 HI.out.1 HI.out.2.1 HI.out.2.2.1 HI.out.2.2.2 rfl (by decide) _ _ _ rfl HR6.out ⟨wr.heap.size, 0, none⟩ 1 1 [.bool _] rfl rfl (cell_one_new _ _ _) (by simp [Value.oneCell']) (by decide) k1 k2 k3.out _ rfl ?_; intro g' cap' w5 hown' hgrow hz9 hz8; clear hz9 hz8; have HN5 := Lib.hid hown'; have HB5 := Lib.hid (HBW.out.grown hgrow k3.out (fun k e => row_own HR6.out e)); have HC5 := Lib.hid (HCF.out.low HB5.out (Nat.lt_succ_self _)); have v0 := HC5.out.c 0 rfl; have v1 := HC5.out.c 1 rfl; have vf := HC5.out.f 1 (by simp); have vz := HC5.out.2.2; clear hown' hgrow)
          have HFF := Lib.hid (show FW (F + 1) F seq (A.take (k + 1)) (w5.setCell ⟨F, 1, none⟩ (.slice (some ⟨g', 0, none⟩) (k + 1) cap')) from ⟨_, Cs.set HC5.out 1 (by simp) (.slice (some ⟨g', 0, none⟩) (k + 1) cap') rfl, by rw [HT.out, List.length_append, HLL.out, List.map_append]; exact ownsRow_setCell_below HN5.out (a := ⟨F, 1, none⟩) (Nat.lt_succ_self _) _⟩)
          have HBF := Lib.hid (show Below F W3 (w5.setCell ⟨F, 1, none⟩ (.slice (some ⟨g', 0, none⟩) (k + 1) cap')) from (HW.out.trans (HB5.out.mono (Nat.le_succ _))).setCell (p := ⟨F, 1, none⟩) (Nat.le_refl _) _)
          clear v0 v1 vf vz
          go_roundw
          all_goals first | exact ⟨k + 1, HLT.out, by (first | rw [hkw] | skip); rw [HK8.out], HFF, HBF⟩ | (have h2 := HLT.out; have h3 := HK8.out; (first | rw [hkw] | skip); simp [intOf]; omega)
        · rw [Bool.true_or] at hac
          subst hac
          go_wp2_with (at_builtin; refine wpList_append_lies _ rfl (.tmp 76) (.tmp 83) 25 rfl (F + 1) 4 i0 _ 1 1 Try.underlying25 HI.out.1 HI.out.2.1 HI.out.2.2.1 HI.out.2.2.2 rfl (by decide) _ _ _ rfl HR6.out ⟨wr.heap.size, 0, none⟩ 1 1 [.bool _] rfl rfl (cell_one_new _ _ _) (by simp [Value.oneCell']) (by decide) k1 k2 k3.out _ rfl ?_; intro g' cap' w5 hown' hgrow hz9 hz8; clear hz9 hz8; have HN5 := Lib.hid hown'; have HB5 := Lib.hid (HBW.out.grown hgrow k3.out (fun k e => row_own HR6.out e)); have HC5 := Lib.hid (HCF.out.low HB5.out (Nat.lt_succ_self _)); have v0 := HC5.out.c 0 rfl; have v1 := HC5.out.c 1 rfl; have vf := HC5.out.f 1 (by simp); have vz := HC5.out.2.2; clear hown' hgrow)
          have HFF := Lib.hid (show FW (F + 1) F seq (A.take (k + 1)) (w5.setCell ⟨F, 1, none⟩ (.slice (some ⟨g', 0, none⟩) (k + 1) cap')) from ⟨_, Cs.set HC5.out 1 (by simp) (.slice (some ⟨g', 0, none⟩) (k + 1) cap') rfl, by rw [HT.out, List.length_append, HLL.out, List.map_append]; exact ownsRow_setCell_below HN5.out (a := ⟨F, 1, none⟩) (Nat.lt_succ_self _) _⟩)
          have HBF := Lib.hid (show Below F W3 (w5.setCell ⟨F, 1, none⟩ (.slice (some ⟨g', 0, none⟩) (k + 1) cap')) from (HW.out.trans (HB5.out.mono (Nat.le_succ _))).setCell (p := ⟨F, 1, none⟩) (Nat.le_refl _) _)
          clear v0 v1 vf vz
          go_roundw
          all_goals first | exact ⟨k + 1, HLT.out, by (first | rw [hkw] | skip); rw [HK8.out], HFF, HBF⟩ | (have h2 := HLT.out; have h3 := HK8.out; (first | rw [hkw] | skip); simp [intOf]; omega)
      · have g1 : decide (n ≤ t) = false := decide_eq_false hnt
        rw [g1, Bool.false_and, Bool.false_or] at hac
        have g4 : (n == seq) = r := by rw [hac]; rfl
        have g5 : decide (n = seq) = r := hac.symm
        clear hn hin hac
        go_wp2_with (at_builtin; refine wpList_append_lies _ rfl (.tmp 76) (.tmp 83) 25 rfl (F + 1) 4 i0 _ 1 1 Try.underlying25 HI.out.1 HI.out.2.1 HI.out.2.2.1 HI.out.2.2.2 rfl (by decide) _ _ _ rfl HR6.out ⟨wr.heap.size, 0, none⟩ 1 1 [.bool _] rfl rfl (cell_one_new _ _ _) (by simp [Value.oneCell']) (by decide) k1 k2 k3.out _ rfl ?_; intro g' cap' w5 hown' hgrow hz9 hz8; clear hz9 hz8; have HN5 := Lib.hid hown'; have HB5 := Lib.hid (HBW.out.grown hgrow k3.out (fun k e => row_own HR6.out e)); have HC5 := Lib.hid (HCF.out.low HB5.out (Nat.lt_succ_self _)); have v0 := HC5.out.c 0 rfl; have v1 := HC5.out.c 1 rfl; have vf := HC5.out.f 1 (by simp); have vz := HC5.out.2.2; clear hown' hgrow)
        have HFF := Lib.hid (show FW (F + 1) F seq (A.take (k + 1)) (w5.setCell ⟨F, 1, none⟩ (.slice (some ⟨g', 0, none⟩) (k + 1) cap')) from ⟨_, Cs.set HC5.out 1 (by simp) (.slice (some ⟨g', 0, none⟩) (k + 1) cap') rfl, by rw [HT.out, List.length_append, HLL.out, List.map_append]; exact ownsRow_setCell_below HN5.out (a := ⟨F, 1, none⟩) (Nat.lt_succ_self _) _⟩)
        have HBF := Lib.hid (show Below F W3 (w5.setCell ⟨F, 1, none⟩ (.slice (some ⟨g', 0, none⟩) (k + 1) cap')) from (HW.out.trans (HB5.out.mono (Nat.le_succ _))).setCell (p := ⟨F, 1, none⟩) (Nat.le_refl _) _)
        clear v0 v1 vf vz
        go_roundw
        all_goals first | exact ⟨k + 1, HLT.out, by (first | rw [hkw] | skip); rw [HK8.out], HFF, HBF⟩ | (have h2 := HLT.out; have h3 := HK8.out; (first | rw [hkw] | skip); simp [intOf]; omega)
    · have hke : k = 16 := by omega
      subst hke
      have r0 := HR4.out.c 0 rfl
      have r1 := HR4.out.c 1 rfl
      have rf0 := HR4.out.f 0 (by simp)
      have rf1 := HR4.out.f 1 (by simp)
      have rz := HR4.out.2.2
      have HO := Lib.hid (show wr.ownsRow (F + 1) 4 1 (.slice ba 16 bc) 16 (A.map Value.bool) by have h := HRW.out; rw [List.take_of_length_le (by rw [HAL.out]; exact Nat.le_refl _)] at h; exact h)
      have HNE := Lib.hid (show w.heap.size + 1 < F + 1 by have := HZ.out; omega)
      go_wp2_with fail
      refine (fun (h : ∀ V : World, Cs V (w.heap.size + 1) #[.int .i64 seq, .slice ba 16 bc] → V.ownsRow (F + 1) 4 1 (.slice ba 16 bc) 16 (A.map Value.bool) → Below w.heap.size w V → bodyPost Try.prog Try.f35 _ Exit.ret _ V) => h _ (Cs.set (Cs.set HR4.out 0 (by simp) (.int .i64 seq) rfl) 1 (by simp) (.slice ba 16 bc) (vs' := #[.int .i64 seq, .slice ba 16 bc]) rfl) (ownsRow_setCell_below (ownsRow_setCell_below HO.out (a := ⟨w.heap.size + 1, 0, none⟩) HNE.out _) (a := ⟨w.heap.size + 1, 1, none⟩) HNE.out _) ((HB4.out.setCell (p := ⟨w.heap.size + 1, 0, none⟩) (Nat.le_succ _) _).setCell (p := ⟨w.heap.size + 1, 1, none⟩) (Nat.le_succ _) _)) ?_
      intro V hC hO hB
      have k0 : V.cell? ⟨w.heap.size + 1, 0, none⟩ = some (.int .i64 seq) := hC.c 0 rfl
      have k1 : V.cell? ⟨w.heap.size + 1, 1, none⟩ = some (.slice ba 16 bc) := hC.c 1 rfl
      exact bodyPost_ret (v := .tuple #[.agg #[.int .i64 seq, .slice ba 16 bc], .int .i64 0]) (by simp [results, Try.results35, go_sem, k0, k1]) rfl (by rw [HA.out]; exact AcP.mk HAL.out (row_capF hO) (bos_row HAL.out hO) hB)
set_option maxRecDepth 100000 in
set_option maxHeartbeats 8000000 in
theorem raccept_set (t : Int) (a : Option Addr) (c : Nat) (L : List Bool) (seq : Int) (w : World) (h : BosAt w (.slice a 16 c) L) (hw : WF t L) (_ : 16 ≤ c) (hs : (decide (0 ≤ seq) && decide (seq ≤ 1000000)) = true) (hst : seq ≤ t) (d : Nat) (hd : t - seq = d) (hd16 : d < 16) (hz : L.getD d false = false) : Calls Try.prog 35 #[.agg #[.int .i64 t, .slice a 16 c], .int .i64 seq] w (AcP w t (accL t L seq) 0) := by
  have HH := Lib.hid h
  have HWF := Lib.hid hw
  have hn := hw.1
  have HC0 := Lib.hid ((Cs.new w w.heap.size #[.int .i64 t, .slice a 16 c] 27 rfl).alloc (.cells #[.int .i64 0, .slice none 0 0] 27))
  have HR0 := Lib.hid (Cs.new (w.alloc (.cells #[.int .i64 t, .slice a 16 c] 27)) (w.heap.size + 1) #[.int .i64 0, .slice none 0 0] 27 (by simp))
  have HB0 := Lib.hid (al2 (w := w) (o1 := .cells #[.int .i64 t, .slice a 16 c] 27) (o2 := .cells #[.int .i64 0, .slice none 0 0] 27))
  have HL0 := Lib.hid (h.step HB0.out)
  obtain ⟨W, hW⟩ : ∃ z, (w.alloc (.cells #[.int .i64 t, .slice a 16 c] 27)).alloc (.cells #[.int .i64 0, .slice none 0 0] 27) = z := ⟨_, rfl⟩
  rw [hW] at HC0 HR0 HB0 HL0
  have HW := Lib.hid hW
  clear hW h
  have c0 := HC0.out.c 0 rfl
  have c1 := HC0.out.c 1 rfl
  have cz := HC0.out.2.2
  clear hw
  have HS := Lib.hid hs
  have hsb : 0 ≤ seq ∧ seq ≤ 1000000 := by simpa using hs
  have HSB := Lib.hid hsb
  have HTB := Lib.hid (show -1 ≤ t ∧ t ≤ 1000000 from ⟨HWF.out.2.1, HWF.out.2.2.1⟩)
  have hLn := Lib.hid hn
  have q1 : decide (seq ≤ t) = true := decide_eq_true hst
  have q2 : wrap64 (t - seq) = d := by rw [IntWalk.wrap64_in _ (by omega)]; exact hd
  have q3 : decide ((d : Int) ≥ 16) = false := by simp; omega
  have q4 : decide (16 ≤ (d : Int)) = false := by simp; omega
  have q5 : (d : Int) < 16 := by omega
  have q6 : ¬ t < seq := by omega
  have hMe : t = if t < seq then seq else t := by rw [if_neg q6]
  have hok : t < seq ∨ (t - seq < 16 ∧ L.getD (t - seq).toNat false = false) := .inr ⟨by omega, by rw [hd, Int.toNat_natCast]; exact hz⟩
  have HZZ := Lib.hid hz
  clear hd hz
  have HAC := Lib.hid (fun i hi => acc_get HWF.out hsb.1 hsb.2 (M := t) hMe hok i hi)
  have HAL := Lib.hid (accL_len (t := t) (L := L) seq hn)
  have HMB := Lib.hid (show 0 ≤ t ∧ t ≤ 1000000 by have := HTB.out; rw [hMe]; split <;> omega)
  clear hs hsb hMe hok
  go_enter Try.func35, Try.ntmps35
  go_upto_region 1 with fail
  rw [HW.out]
  go_wp2_with fail
  refine (rwin_yes t a c L _ HL0.out HWF.out).mono ?_
  rintro e w2 ⟨rfl, b2⟩
  have HC2 := Lib.hid (HC0.out.step b2)
  have HR2 := Lib.hid (HR0.out.step b2)
  have HB2 := Lib.hid (keep2 b2 HB0.out)
  have HL2 := Lib.hid (HL0.out.step b2)
  clear b2 c0 c1 cz HC0 HR0 HB0 HL0
  obtain ⟨a', c', hv, -, hcs⟩ := HL2.out
  obtain ⟨rfl, -, rfl⟩ : a = a' ∧ 16 = L.length ∧ c = c' := by simpa using hv
  obtain ⟨b, off, rfl, -⟩ := hcs (by intro e; rw [e] at hn; simp at hn)
  clear hv hcs
  have y0 := bos_get HL2.out d (by omega)
  rw [HZZ.out] at y0
  have yz : b < w2.heap.size := World.block_lt_of_cell? _ _ y0
  have c0 := HC2.out.c 0 rfl
  have c1 := HC2.out.c 1 rfl
  have cz := HC2.out.2.2
  go_wp2_with fail
  refine (rbtw_q seq 0 1000000 true HS.out _).mono ?_
  rintro e w' ⟨rfl, rfl⟩
  go_wp2_with fail
  obtain ⟨A, hA⟩ : ∃ z, accL t L seq = z := ⟨_, rfl⟩
  rw [hA] at HAC HAL
  have HA := Lib.hid hA
  clear hA
  have HF3 := Lib.hid (Cs.new w2 w2.heap.size #[.int .i64 t, .slice none 0 0] 27 rfl)
  have HC3 := Lib.hid (HC2.out.alloc (.cells #[.int .i64 t, .slice none 0 0] 27))
  have HR3 := Lib.hid (HR2.out.alloc (.cells #[.int .i64 t, .slice none 0 0] 27))
  have HB3 := Lib.hid (HB2.out.alloc HB2.out.size (.cells #[.int .i64 t, .slice none 0 0] 27))
  have HZ := Lib.hid (show w.heap.size + 1 < w2.heap.size from HR2.out.2.2)
  obtain ⟨F, hF⟩ : ∃ z, w2.heap.size = z := ⟨_, rfl⟩
  obtain ⟨W3, hW3⟩ : ∃ z, w2.alloc (.cells #[.int .i64 t, .slice none 0 0] 27) = z := ⟨_, rfl⟩
  have HZ3 := Lib.hid (show F + 1 ≤ W3.heap.size by rw [← hW3, ← hF]; simp)
  have HFE := Lib.hid hF
  have HB23 := Lib.hid (show Below F w2 W3 by rw [← hW3, ← hF]; exact al w2 _)
  rw [hW3] at HF3 HC3 HR3 HB3 ⊢
  rw [hF] at HF3 HZ ⊢
  clear hW3 hF
  clear c0 c1 cz HC2 HR2 HB2
  have HFB := Lib.hid (show FW (F + 1) F t [] W3 from ⟨_, HF3.out, World.ownsRow_nil _ _ _ _⟩)
  obtain ⟨i0, hi, hz0, hz1, hz2⟩ := info_parts infoBo
  have HI := Lib.hid (show _ ∧ _ ∧ _ ∧ _ from ⟨hi, hz0, hz1, hz2⟩)
  clear HF3 hi hz0 hz1 hz2
  go_loopw [7] (fun iv wr => ∃ k : Nat, k ≤ 16 ∧ iv = .int .i64 k ∧ Hid (FW (F + 1) F t (A.take k) wr) ∧ Hid (Below F W3 wr)) (fun iv _ => 16 - (intOf iv).toNat)
  case atStart => exact ⟨0, by omega, rfl, Lib.hid (by rw [List.take_zero]; exact HFB.out), Lib.hid (Below.refl _ _)⟩
  case round =>
    clear HFB
    obtain ⟨k, hk, rfl, HF, HW⟩ := hrel
    have hkw : wrap64 ((k : Int) + 1) = k + 1 := IntWalk.wrap64_in _ (by omega)
    have HK8 := Lib.hid (show ((k + 1 : Nat) : Int) = (k : Int) + 1 by omega)
    have HC4 := Lib.hid (HC3.out.low HW.out (by have := HZ.out; omega))
    have HR4 := Lib.hid (HR3.out.low HW.out (by have := HZ.out; omega))
    have HB4 := Lib.hid (HB3.out.trans (HW.out.mono (by have := HZ.out; omega)))
    obtain ⟨bv, hC, hrow⟩ := HF.out
    have HLL := Lib.hid (show (A.take k).length = k by rw [List.length_take, HAL.out]; omega)
    rw [HLL.out] at hrow
    obtain ⟨ba, bc, rfl⟩ := row_slice hrow
    have HRW := Lib.hid hrow
    have HCF := Lib.hid hC
    have f0 := hC.c 0 rfl
    have f1 := hC.c 1 rfl
    have fz := hC.2.2
    have c0 := HC4.out.c 0 rfl
    have c1 := HC4.out.c 1 rfl
    have cz := HC4.out.2.2
    clear hC hrow
    by_cases hlt : k < 16
    · have t1 : (k : Int) < 16 := by omega
      have t2 : decide ((k : Int) < 16) = true := by simp; omega
      have hac := (HAC.out k hlt).1
      have hin := (HAC.out k hlt).2
      have HT := Lib.hid (show A.take (k + 1) = A.take k ++ [A.getD k false] by rw [List.take_succ_eq_append_getElem (by rw [HAL.out]; exact hlt)]; simp [HAL.out, hlt])
      obtain ⟨n, hn⟩ : ∃ n, t - (k : Int) = n := ⟨_, rfl⟩
      rw [hn] at hac hin
      have wq1 : wrap64 (t - (k : Int)) = n := by rw [IntWalk.wrap64_in _ (by have := HMB.out; omega)]; exact hn
      obtain ⟨r, hr⟩ : ∃ r, A.getD k false = r := ⟨_, rfl⟩
      rw [hr] at hac HT
      have HLT := Lib.hid hlt
      have k1 : k + 1 ≤ maxLen := by unfold maxLen; omega
      have k2 : (k + 1) * 1 ≤ 140737488355328 := by omega
      have hB6 := Lib.hid (al wr (.cells #[.bool r] 4))
      have HR6 := Lib.hid (row_step HRW.out hB6.out)
      have k3 := Lib.hid (show F + 1 ≤ (wr.alloc (.cells #[.bool r] 4)).heap.size from Nat.le_trans (Nat.le_trans HZ3.out HW.out.size) hB6.out.size)
      have HBW := Lib.hid (hB6.out.mono (Nat.le_trans HZ3.out HW.out.size))
      replace hr := Lib.hid hr
      by_cases hnt : n ≤ t
      · obtain ⟨h1, h2⟩ := hin hnt
        obtain ⟨j, hj⟩ : ∃ j : Nat, t - n = j := ⟨(t - n).toNat, by omega⟩
        have wq2 : wrap64 (t - n) = j := by rw [IntWalk.wrap64_in _ (by omega)]; exact hj
        have g1 : decide (n ≤ t) = true := decide_eq_true hnt
        have g2 : decide ((j : Int) < 16) = true := by simp; omega
        have g3 : (j : Int) < 16 := by omega
        have hj16 : j < 16 := by omega
        have y0 := bos_get (HL2.out.step (show Below w2.heap.size w2 wr by rw [HFE.out]; exact HB23.out.trans HW.out)) j (by rw [hLn.out]; exact hj16)
        have yz := World.block_lt_of_cell? _ _ y0
        rw [g1, Bool.true_and, hj, Int.toNat_natCast] at hac
        obtain ⟨z, hz⟩ : ∃ z, L.getD j false = z := ⟨_, rfl⟩
        rw [hz] at hac y0
        clear hj hz hn h1 h2 hin
        cases z
        · rw [Bool.false_or] at hac
          have g4 : (n == seq) = r := by rw [hac]; rfl
          have g5 : decide (n = seq) = r := hac.symm
          clear hac
          go_wp2_with (at_builtin; refine wpList_append_lies _ rfl (.tmp 76) (.tmp 83) 25 rfl (F + 1) 4 i0 _ 1 1 Try.underlying25 HI.out.1 HI.out.2.1 HI.out.2.2.1 HI.out.2.2.2 rfl (by decide) _ _ _ rfl HR6.out ⟨wr.heap.size, 0, none⟩ 1 1 [.bool _] rfl rfl (cell_one_new _ _ _) (by simp [Value.oneCell']) (by decide) k1 k2 k3.out _ rfl ?_; intro g' cap' w5 hown' hgrow hz9 hz8; clear hz9 hz8; have HN5 := Lib.hid hown'; have HB5 := Lib.hid (HBW.out.grown hgrow k3.out (fun k e => row_own HR6.out e)); have HC5 := Lib.hid (HCF.out.low HB5.out (Nat.lt_succ_self _)); have v0 := HC5.out.c 0 rfl; have v1 := HC5.out.c 1 rfl; have vf := HC5.out.f 1 (by simp); have vz := HC5.out.2.2; clear hown' hgrow)
          have HFF := Lib.hid (show FW (F + 1) F t (A.take (k + 1)) (w5.setCell ⟨F, 1, none⟩ (.slice (some ⟨g', 0, none⟩) (k + 1) cap')) from ⟨_, Cs.set HC5.out 1 (by simp) (.slice (some ⟨g', 0, none⟩) (k + 1) cap') rfl, by rw [HT.out, List.length_append, HLL.out, List.map_append]; exact ownsRow_setCell_below HN5.out (a := ⟨F, 1, none⟩) (Nat.lt_succ_self _) _⟩)
          have HBF := Lib.hid (show Below F W3 (w5.setCell ⟨F, 1, none⟩ (.slice (some ⟨g', 0, none⟩) (k + 1) cap')) from (HW.out.trans (HB5.out.mono (Nat.le_succ _))).setCell (p := ⟨F, 1, none⟩) (Nat.le_refl _) _)
          clear v0 v1 vf vz
          go_roundw
          all_goals first | exact ⟨k + 1, HLT.out, by (first | rw [hkw] | skip); rw [HK8.out], HFF, HBF⟩ | (have h2 := HLT.out; have h3 := HK8.out; (first | rw [hkw] | skip); simp [intOf]; omega)
        · rw [Bool.true_or] at hac
          subst hac
          go_wp2_with (at_builtin; refine wpList_append_lies _ rfl (.tmp 76) (.tmp 83) 25 rfl (F + 1) 4 i0 _ 1 1 Try.underlying25 HI.out.1 HI.out.2.1 HI.out.2.2.1 HI.out.2.2.2 rfl (by decide) _ _ _ rfl HR6.out ⟨wr.heap.size, 0, none⟩ 1 1 [.bool _] rfl rfl (cell_one_new _ _ _) (by simp [Value.oneCell']) (by decide) k1 k2 k3.out _ rfl ?_; intro g' cap' w5 hown' hgrow hz9 hz8; clear hz9 hz8; have HN5 := Lib.hid hown'; have HB5 := Lib.hid (HBW.out.grown hgrow k3.out (fun k e => row_own HR6.out e)); have HC5 := Lib.hid (HCF.out.low HB5.out (Nat.lt_succ_self _)); have v0 := HC5.out.c 0 rfl; have v1 := HC5.out.c 1 rfl; have vf := HC5.out.f 1 (by simp); have vz := HC5.out.2.2; clear hown' hgrow)
          have HFF := Lib.hid (show FW (F + 1) F t (A.take (k + 1)) (w5.setCell ⟨F, 1, none⟩ (.slice (some ⟨g', 0, none⟩) (k + 1) cap')) from ⟨_, Cs.set HC5.out 1 (by simp) (.slice (some ⟨g', 0, none⟩) (k + 1) cap') rfl, by rw [HT.out, List.length_append, HLL.out, List.map_append]; exact ownsRow_setCell_below HN5.out (a := ⟨F, 1, none⟩) (Nat.lt_succ_self _) _⟩)
          have HBF := Lib.hid (show Below F W3 (w5.setCell ⟨F, 1, none⟩ (.slice (some ⟨g', 0, none⟩) (k + 1) cap')) from (HW.out.trans (HB5.out.mono (Nat.le_succ _))).setCell (p := ⟨F, 1, none⟩) (Nat.le_refl _) _)
          clear v0 v1 vf vz
          go_roundw
          all_goals first | exact ⟨k + 1, HLT.out, by (first | rw [hkw] | skip); rw [HK8.out], HFF, HBF⟩ | (have h2 := HLT.out; have h3 := HK8.out; (first | rw [hkw] | skip); simp [intOf]; omega)
      · have g1 : decide (n ≤ t) = false := decide_eq_false hnt
        rw [g1, Bool.false_and, Bool.false_or] at hac
        have g4 : (n == seq) = r := by rw [hac]; rfl
        have g5 : decide (n = seq) = r := hac.symm
        clear hn hin hac
        go_wp2_with (at_builtin; refine wpList_append_lies _ rfl (.tmp 76) (.tmp 83) 25 rfl (F + 1) 4 i0 _ 1 1 Try.underlying25 HI.out.1 HI.out.2.1 HI.out.2.2.1 HI.out.2.2.2 rfl (by decide) _ _ _ rfl HR6.out ⟨wr.heap.size, 0, none⟩ 1 1 [.bool _] rfl rfl (cell_one_new _ _ _) (by simp [Value.oneCell']) (by decide) k1 k2 k3.out _ rfl ?_; intro g' cap' w5 hown' hgrow hz9 hz8; clear hz9 hz8; have HN5 := Lib.hid hown'; have HB5 := Lib.hid (HBW.out.grown hgrow k3.out (fun k e => row_own HR6.out e)); have HC5 := Lib.hid (HCF.out.low HB5.out (Nat.lt_succ_self _)); have v0 := HC5.out.c 0 rfl; have v1 := HC5.out.c 1 rfl; have vf := HC5.out.f 1 (by simp); have vz := HC5.out.2.2; clear hown' hgrow)
        have HFF := Lib.hid (show FW (F + 1) F t (A.take (k + 1)) (w5.setCell ⟨F, 1, none⟩ (.slice (some ⟨g', 0, none⟩) (k + 1) cap')) from ⟨_, Cs.set HC5.out 1 (by simp) (.slice (some ⟨g', 0, none⟩) (k + 1) cap') rfl, by rw [HT.out, List.length_append, HLL.out, List.map_append]; exact ownsRow_setCell_below HN5.out (a := ⟨F, 1, none⟩) (Nat.lt_succ_self _) _⟩)
        have HBF := Lib.hid (show Below F W3 (w5.setCell ⟨F, 1, none⟩ (.slice (some ⟨g', 0, none⟩) (k + 1) cap')) from (HW.out.trans (HB5.out.mono (Nat.le_succ _))).setCell (p := ⟨F, 1, none⟩) (Nat.le_refl _) _)
        clear v0 v1 vf vz
        go_roundw
        all_goals first | exact ⟨k + 1, HLT.out, by (first | rw [hkw] | skip); rw [HK8.out], HFF, HBF⟩ | (have h2 := HLT.out; have h3 := HK8.out; (first | rw [hkw] | skip); simp [intOf]; omega)
    · have hke : k = 16 := by omega
      subst hke
      have r0 := HR4.out.c 0 rfl
      have r1 := HR4.out.c 1 rfl
      have rf0 := HR4.out.f 0 (by simp)
      have rf1 := HR4.out.f 1 (by simp)
      have rz := HR4.out.2.2
      have HO := Lib.hid (show wr.ownsRow (F + 1) 4 1 (.slice ba 16 bc) 16 (A.map Value.bool) by have h := HRW.out; rw [List.take_of_length_le (by rw [HAL.out]; exact Nat.le_refl _)] at h; exact h)
      have HNE := Lib.hid (show w.heap.size + 1 < F + 1 by have := HZ.out; omega)
      go_wp2_with fail
      refine (fun (h : ∀ V : World, Cs V (w.heap.size + 1) #[.int .i64 t, .slice ba 16 bc] → V.ownsRow (F + 1) 4 1 (.slice ba 16 bc) 16 (A.map Value.bool) → Below w.heap.size w V → bodyPost Try.prog Try.f35 _ Exit.ret _ V) => h _ (Cs.set (Cs.set HR4.out 0 (by simp) (.int .i64 t) rfl) 1 (by simp) (.slice ba 16 bc) (vs' := #[.int .i64 t, .slice ba 16 bc]) rfl) (ownsRow_setCell_below (ownsRow_setCell_below HO.out (a := ⟨w.heap.size + 1, 0, none⟩) HNE.out _) (a := ⟨w.heap.size + 1, 1, none⟩) HNE.out _) ((HB4.out.setCell (p := ⟨w.heap.size + 1, 0, none⟩) (Nat.le_succ _) _).setCell (p := ⟨w.heap.size + 1, 1, none⟩) (Nat.le_succ _) _)) ?_
      intro V hC hO hB
      have k0 : V.cell? ⟨w.heap.size + 1, 0, none⟩ = some (.int .i64 t) := hC.c 0 rfl
      have k1 : V.cell? ⟨w.heap.size + 1, 1, none⟩ = some (.slice ba 16 bc) := hC.c 1 rfl
      exact bodyPost_ret (v := .tuple #[.agg #[.int .i64 t, .slice ba 16 bc], .int .i64 0]) (by simp [results, Try.results35, go_sem, k0, k1]) rfl (by rw [HA.out]; exact AcP.mk HAL.out (row_capF hO) (bos_row HAL.out hO) hB)
theorem raccept_wf (t : Int) (a : Option Addr) (c : Nat) (L : List Bool) (s : Int) (w : World) (h : BosAt w (.slice a 16 c) L) (hw : WF t L) (hc : 16 ≤ c) : Calls Try.prog 35 #[.agg #[.int .i64 t, .slice a 16 c], .int .i64 s] w (AcP w (accT t L s) (accL t L s) (accE t L s)) := by
  cases hs : (decide (0 ≤ s) && decide (s ≤ 1000000))
  · have q1 : s < 0 ∨ 1000000 < s := by simp at hs; omega
    unfold accT accL accE
    rw [if_pos q1, if_pos q1, if_pos q1]
    exact raccept_rng t a c L s w h hw hc hs
  · have hb : 0 ≤ s ∧ s ≤ 1000000 := by simpa using hs
    have q1 : ¬ (s < 0 ∨ 1000000 < s) := by omega
    have eT : accT t L s = if t < s then s else t := by unfold accT; rw [if_neg q1]
    by_cases q2 : t < s
    · have e : accE t L s = 0 := by unfold accE; rw [if_neg q1, if_pos q2]
      rw [e, eT, if_pos q2]
      exact raccept_new t a c L s w h hw hc hs q2
    · by_cases q3 : 16 ≤ t - s
      · have e : accE t L s = 16 := by unfold accE; rw [if_neg q1, if_neg q2, if_pos q3]
        have e2 : accL t L s = L := by unfold accL; rw [if_neg q1, if_neg q2, if_pos q3]
        rw [e, eT, if_neg q2, e2]
        exact raccept_old t a c L s w h hw hc hs (by omega) q3
      · obtain ⟨d, hd⟩ : ∃ d : Nat, t - s = d := ⟨(t - s).toNat, by omega⟩
        by_cases q4 : L.getD d false = true
        · have e : accE t L s = 16 := by unfold accE; rw [if_neg q1, if_neg q2, if_neg q3, if_pos (by rw [hd, Int.toNat_natCast]; exact q4)]
          have e2 : accL t L s = L := by unfold accL; rw [if_neg q1, if_neg q2, if_neg q3, if_pos (by rw [hd, Int.toNat_natCast]; exact q4)]
          rw [e, eT, if_neg q2, e2]
          exact raccept_seen t a c L s w h hw hc hs (by omega) d hd (by omega) q4
        · have e : accE t L s = 0 := by unfold accE; rw [if_neg q1, if_neg q2, if_neg q3, if_neg (by rw [hd, Int.toNat_natCast]; exact q4)]
          rw [e, eT, if_neg q2]
          exact raccept_set t a c L s w h hw hc hs (by omega) d hd (by omega) (by simpa using q4)
end Go.Proofs.Ytkamkkjijjkfdaa
