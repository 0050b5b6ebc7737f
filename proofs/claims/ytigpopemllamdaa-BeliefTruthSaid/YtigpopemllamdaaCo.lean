/- The law 'BeliefTruth'. -/
import Derived.Test.YtigpopemllamdaaCp
import Derived.Deep.CutRange
namespace Go.Proofs.Ytigpopemllamdaa
open Go.RowKit

set_option maxRecDepth 100000 in
set_option maxHeartbeats 8000000 in
theorem can_r (u s : Value) (zs : List Int) (x : Int) (c : Bool) (hc : zs.contains x = c) (w : World) (h : IntsAt w u zs) (h9 : zs.length ≤ 300) :
    Calls Try.prog 20 #[.agg #[u, s], .int .i64 x] w fun e w' => e = .returned (.bool c) ∧ Below w.heap.size w w' := by
  subst hc
  exact can_any u s zs x w h (by omega)
/-- What a run keeps, with the last order. -/
structure TrZ (L : List Od) (D : Nat) (v c : Int) (z : Od) (V : List Int) (M : List Od) : Prop where
  tr : Tr L D v c V M
  zl : ∀ i, i < L.length → (L.getD i zO).a ≤ z.a
  za : -1 ≤ z.a ∧ z.a ≤ 1000000000
  zb : 0 ≤ z.b ∧ z.b ≤ 1000000000
theorem TrZ.lens {L : List Od} {D : Nat} {v c : Int} {z : Od} {V : List Int} {M : List Od} (h : TrZ L D v c z V M) : M.length ≤ 300 ∧ V.length ≤ 300 := by
  have := isW_lens h.tr.ok; exact ⟨this.2, this.1⟩
theorem TrZ.bit {L : List Od} {D : Nat} {v c : Int} {z : Od} {V : List Int} {M : List Od} (h : TrZ L D v c z V M) : D ≤ 2000000 := by
  have h1 := h.tr.bits
  have h2 : 2 ^ L.length ≤ 2 ^ 20 := Nat.pow_le_pow_right (by omega) h.tr.len
  have h3 : (2 : Nat) ^ 20 = 1048576 := by decide
  omega
theorem TrZ.sent {L : List Od} {D : Nat} {v c : Int} {z : Od} {V : List Int} {M : List Od} (h : TrZ L D v c z V M) {o : Od} (ha : z.a < o.a) (hl : L.length < 20) (hs : snE V M o = 0) : TrZ (L ++ [o]) D v c o (rV 0 (M ++ [o])) (rM 0 (M ++ [o])) := by
  have hs' : sdE M o = 0 := by rw [snE_W, if_pos h.tr.ok] at hs; exact hs
  have ho := isO_parts (sdE_ok hs').1
  refine ⟨h.tr.sent hl (fun i hi => by have := h.zl i hi; omega) hs', fun i hi => ?_, by omega, by omega⟩
  rw [List.length_append, List.length_singleton] at hi
  by_cases e : i < L.length
  · rw [getD_app e]; have := h.zl i e; omega
  · obtain rfl : i = L.length := by omega
    rw [getD_last]; exact Int.le_refl _
theorem TrZ.exec {L : List Od} {D : Nat} {v c : Int} {z : Od} {V : List Int} {M : List Od} (h : TrZ L D v c z V M) {i : Nat} (hi : i < L.length) : TrZ L (exD (exB L D c i) D i) (exV (exB L D c i) L i v) c z V M := ⟨h.tr.exec hi, h.zl, h.za, h.zb⟩
theorem TrZ.conf {L : List Od} {D : Nat} {v c : Int} {z : Od} {V : List Int} {M : List Od} (h : TrZ L D v c z V M) {k : Nat} (hk : k < L.length) (hd : D.testBit k = true) (hs : cnE V M (L.getD k zO).a = 0) : TrZ L D v c z (rV 0 (cfM (L.getD k zO).a M)) (rM 0 (cfM (L.getD k zO).a M)) :=
  ⟨h.tr.conf hk hd (by rw [cnE_W, if_pos h.tr.ok] at hs; exact hs), h.zl, h.za, h.zb⟩
theorem TrZ.rep {L : List Od} {D : Nat} {v c : Int} {z : Od} {V : List Int} {M : List Od} (h : TrZ L D v c z V M) : rnE V M v (tpf D L c L.length) = 0 ∧ TrZ L D v (tpf D L c L.length) z (rV 0 (rpM M v (tpf D L c L.length))) (rM 0 (rpM M v (tpf D L c L.length))) := by
  obtain ⟨h1, h2⟩ := h.tr.rep
  exact ⟨by rw [rnE_W, if_pos h.tr.ok]; exact h1, h2, h.zl, h.za, h.zb⟩
theorem TrZ.num {L : List Od} {D : Nat} {v c : Int} {z : Od} {V : List Int} {M : List Od} (h : TrZ L D v c z V M) : ∀ x ∈ L, -1000 ≤ x.a ∧ x.a ≤ 1000000000 := fun x hx => by
  have := (isO_parts (h.tr.vals x hx)).1; omega
theorem TrZ.start {v : Int} (h : 0 ≤ v ∧ v < 16) : TrZ [] 0 v (-1) ⟨-1, 0, 0, 0⟩ [v] (bS (-1) v) := ⟨Tr.start h, fun i hi => (by simp at hi), by decide, by decide⟩
theorem mod_nat {n : Int} {len : Nat} (_ : 0 ≤ n) (hl : 0 < len) : ∃ k : Nat, n % (len : Int) = k ∧ k < len :=
  ⟨(n % (len : Int)).toNat, by have := Int.emod_nonneg n (show (len : Int) ≠ 0 by omega); omega, by have := Int.emod_lt_of_pos n (show (0 : Int) < (len : Int) by omega); have := Int.emod_nonneg n (show (len : Int) ≠ 0 by omega); omega⟩
theorem meas_any {i : Nat} {n : Nat} (h : i < n) (_ : n ≤ 40) : n - (intOf (.int .i64 ((i : Int) + 1))).toNat < n - (intOf (.int .i64 (i : Int))).toNat := by
  show n - ((i : Int) + 1).toNat < n - ((i : Int)).toNat
  omega
theorem app_wt {base kb kw kl : Nat} {la la8 : Option Addr} {lc lc8 : Nat} {L : List Od} {v : Int} {D : Nat} {c : Int} {z : Od} {V : List Int} {M : List Od} {w w8 : World} {x : Od} (h : WT base kb kw kl la lc L v D c z V M w) (hg : w.grownBy w8 (Value.slice la L.length lc).ownBlock)
    (hr : w8.ownsRow base 27 4 (.slice la8 (L.length + 1) lc8) (L.length + 1) (ocs L ++ [.int .i64 x.a, .int .i64 x.b, .int .i64 x.c, .int .i64 x.d]))
    (hd : (Value.slice la8 (L.length + 1) lc8).ownBlock = (Value.slice la L.length lc).ownBlock ∨ (Value.slice la8 (L.length + 1) lc8).ownBlock = some w.heap.size) : WT base kb kw kl la8 lc8 (L ++ [x]) v D c z V M w8 := by
  have e1 : (L ++ [x]).length = L.length + 1 := by simp
  refine h.app hg (by rw [e1, ocs_app, ocs_one]; exact hr) ?_
  rw [e1]
  rcases hd with q | q
  · exact .inl q
  · exact .inr fun k hk => by rw [q] at hk; cases hk; exact Nat.le_refl _
theorem app_cs {base kb kw kl k : Nat} {la : Option Addr} {lc : Nat} {L : List Od} {v : Int} {D : Nat} {c : Int} {z : Od} {V : List Int} {M : List Od} {w w8 : World} {vs : Array Value} (h : WT base kb kw kl la lc L v D c z V M w) (hg : w.grownBy w8 (Value.slice la L.length lc).ownBlock) (hc : Cs w k vs) (hk : ∀ g o, la = some ⟨g, o, none⟩ → g ≠ k) : Cs w8 k vs :=
  grown_cs hc hg fun e => by
    obtain ⟨o, h1, -⟩ := own_some h.row e
    exact hk k o h1 rfl
set_option maxRecDepth 100000 in
set_option maxHeartbeats 8000000 in
theorem truth_no (st : Int) (vl : Value) (l : List Int) (w : World) (_ : 0 ≤ st) (_ : st ≤ 255) (h : KsAt .u16 w vl l) (hl : 40 < l.length) :
    Calls Try.prog 5 #[.int .u8 st, vl] w fun e w' => e = .returned (.bool true) ∧ Below w.heap.size w w' := by
  have H0 := Lib.hid (Below.refl w.heap.size w)
  have HK := Lib.hid h
  obtain ⟨sa, sc, rfl, -, -⟩ := h
  go_enter Try.func5, Try.ntmps5
  go_wp2_with fail
  refine (head_any _).mono ?_
  rintro e u1 ⟨rfl, b1⟩
  have H1 := Lib.hid (keep2 b1 H0.out)
  clear H0
  clear b1
  have hg : (40 : Int) < (l.length : Int) := by omega
  go_wp2
  go_ret
  exact ⟨rfl, H1.out⟩
set_option maxRecDepth 100000 in
set_option maxHeartbeats 8000000 in
theorem truth_go (st : Int) (vl : Value) (l : List Int) (w : World) (a1 : 0 ≤ st) (a2 : st ≤ 255) (h : KsAt .u16 w vl l) (hl : ¬ 40 < l.length) :
    Calls Try.prog 5 #[.int .u8 st, vl] w fun e w' => e = .returned (.bool true) ∧ Below w.heap.size w w' := by
  have H0 := Lib.hid (Below.refl w.heap.size w)
  have HK := Lib.hid h
  obtain ⟨sa, sc, rfl, -, -⟩ := h
  have HS0 := Lib.hid (show 0 ≤ st % 4 ∧ st % 4 < 16 by omega)
  obtain ⟨V0, hV0⟩ : ∃ z, [st % 4] = z := ⟨_, rfl⟩
  obtain ⟨M0, hM0⟩ : ∃ z, bS (-1) (st % 4) = z := ⟨_, rfl⟩
  have HTR0 := Lib.hid (TrZ.start HS0.out)
  rw [hV0, hM0] at HTR0
  have HV0 := Lib.hid hV0
  have HM0 := Lib.hid hM0
  clear hV0 hM0
  go_enter Try.func5, Try.ntmps5
  go_wp2_with fail
  refine (head_any _).mono ?_
  rintro e u1 ⟨rfl, b1⟩
  have H1 := Lib.hid (keep2 b1 H0.out)
  clear H0
  clear b1
  have hg : ¬ (40 : Int) < (l.length : Int) := by omega
  have H9 := Lib.hid (show l.length ≤ 40 by omega)
  go_wp2_with fail
  refine (known_q (st % 4) HS0.out HV0.out HM0.out _).mono ?_
  rintro e u2 ⟨ua0, uc0, fa0, fc0, rfl, b2, hr⟩
  have H2 := Lib.hid (keep2 b2 H1.out)
  clear H1
  clear b2
  have HKU := Lib.hid H2.out.size
  have HXU := Lib.hid (BoxN.new u2 #[.slice ua0 V0.length uc0, .slice fa0 M0.length fc0] 25)
  have HIU := Lib.hid (fun q => ints_lt hr.1 q)
  have HOU := Lib.hid (fun q => ods_lt hr.2 q)
  have H3 := Lib.hid (hr)
  clear hr
  have H4 := Lib.hid (H3.out.step (al u2 (.cells #[.slice ua0 V0.length uc0, .slice fa0 M0.length fc0] 25)))
  clear H3
  have H5 := Lib.hid (keep2 (al u2 (.cells #[.slice ua0 V0.length uc0, .slice fa0 M0.length fc0] 25)) H2.out)
  clear H2
  have H6 := Lib.hid (Cs.new u2 (u2.heap.size) #[.slice ua0 V0.length uc0, .slice fa0 M0.length fc0] 25 (by simp))
  have H7 := Lib.hid (H4.out.step (al (u2.alloc (.cells #[.slice ua0 V0.length uc0, .slice fa0 M0.length fc0] 25)) (.cells #[.int .i64 (st % 4), .int .i64 0, .int .i64 (-1)] 44)))
  clear H4
  have H8 := Lib.hid (H6.out.step (al (u2.alloc (.cells #[.slice ua0 V0.length uc0, .slice fa0 M0.length fc0] 25)) (.cells #[.int .i64 (st % 4), .int .i64 0, .int .i64 (-1)] 44)))
  clear H6
  have H9 := Lib.hid (HXU.out.step (al (u2.alloc (.cells #[.slice ua0 V0.length uc0, .slice fa0 M0.length fc0] 25)) (.cells #[.int .i64 (st % 4), .int .i64 0, .int .i64 (-1)] 44)))
  clear HXU
  have H10 := Lib.hid (keep2 (al (u2.alloc (.cells #[.slice ua0 V0.length uc0, .slice fa0 M0.length fc0] 25)) (.cells #[.int .i64 (st % 4), .int .i64 0, .int .i64 (-1)] 44)) H5.out)
  clear H5
  have H11 := Lib.hid (Cs.new (u2.alloc (.cells #[.slice ua0 V0.length uc0, .slice fa0 M0.length fc0] 25)) (u2.heap.size + 1) #[.int .i64 (st % 4), .int .i64 0, .int .i64 (-1)] 44 (by simp))
  have H12 := Lib.hid (H7.out.step (al ((u2.alloc (.cells #[.slice ua0 V0.length uc0, .slice fa0 M0.length fc0] 25)).alloc (.cells #[.int .i64 (st % 4), .int .i64 0, .int .i64 (-1)] 44)) (.cells #[.int .i64 (-1), .int .i64 0, .int .i64 0, .int .i64 0] 27)))
  clear H7
  have H13 := Lib.hid (H8.out.step (al ((u2.alloc (.cells #[.slice ua0 V0.length uc0, .slice fa0 M0.length fc0] 25)).alloc (.cells #[.int .i64 (st % 4), .int .i64 0, .int .i64 (-1)] 44)) (.cells #[.int .i64 (-1), .int .i64 0, .int .i64 0, .int .i64 0] 27)))
  clear H8
  have H14 := Lib.hid (H9.out.step (al ((u2.alloc (.cells #[.slice ua0 V0.length uc0, .slice fa0 M0.length fc0] 25)).alloc (.cells #[.int .i64 (st % 4), .int .i64 0, .int .i64 (-1)] 44)) (.cells #[.int .i64 (-1), .int .i64 0, .int .i64 0, .int .i64 0] 27)))
  clear H9
  have H15 := Lib.hid (H11.out.step (al ((u2.alloc (.cells #[.slice ua0 V0.length uc0, .slice fa0 M0.length fc0] 25)).alloc (.cells #[.int .i64 (st % 4), .int .i64 0, .int .i64 (-1)] 44)) (.cells #[.int .i64 (-1), .int .i64 0, .int .i64 0, .int .i64 0] 27)))
  clear H11
  have H16 := Lib.hid (keep2 (al ((u2.alloc (.cells #[.slice ua0 V0.length uc0, .slice fa0 M0.length fc0] 25)).alloc (.cells #[.int .i64 (st % 4), .int .i64 0, .int .i64 (-1)] 44)) (.cells #[.int .i64 (-1), .int .i64 0, .int .i64 0, .int .i64 0] 27)) H10.out)
  clear H10
  have H17 := Lib.hid (Cs.new ((u2.alloc (.cells #[.slice ua0 V0.length uc0, .slice fa0 M0.length fc0] 25)).alloc (.cells #[.int .i64 (st % 4), .int .i64 0, .int .i64 (-1)] 44)) (u2.heap.size + 1 + 1) #[.int .i64 (-1), .int .i64 0, .int .i64 0, .int .i64 0] 27 (by simp))
  go_wp2_with fail
  obtain ⟨U, hU⟩ : ∃ z, (((u2.alloc (.cells #[.slice ua0 V0.length uc0, .slice fa0 M0.length fc0] 25)).alloc (.cells #[.int .i64 (st % 4), .int .i64 0, .int .i64 (-1)] 44)).alloc (.cells #[.int .i64 (-1), .int .i64 0, .int .i64 0, .int .i64 0] 27)) = z := ⟨_, rfl⟩
  have HUS := Lib.hid (show U.heap.size = u2.heap.size + 1 + 1 + 1 by rw [← hU]; simp)
  rw [hU] at H12 H13 H14 H15 H17 H16 ⊢
  clear hU
  obtain ⟨kb, hkb⟩ : ∃ z, u2.heap.size = z := ⟨_, rfl⟩
  rw [hkb] at H13 H14 H15 H17 HKU HIU HOU HUS ⊢
  obtain ⟨kw, hkw⟩ : ∃ z, kb + 1 = z := ⟨_, rfl⟩
  obtain ⟨kl, hkl⟩ : ∃ z, kw + 1 = z := ⟨_, rfl⟩
  rw [hkw] at H17 H15 HUS ⊢
  rw [hkl] at H17 HUS ⊢
  obtain ⟨base, hbase⟩ : ∃ z, U.heap.size = z := ⟨_, rfl⟩
  have HNUM := Lib.hid (show (kb < base ∧ kw < base ∧ kl < base) ∧ (kb ≠ kw ∧ kb ≠ kl ∧ kw ≠ kl) ∧ w.heap.size ≤ kb by have h1 := HUS.out; have h2 := HKU.out; omega)
  have hwt : WT base kb kw kl none 0 [] (st % 4) 0 (-1) ⟨-1, 0, 0, 0⟩ V0 M0 U := ⟨⟨ua0, uc0, fa0, fc0, H14.out, H12.out, fun q => ⟨fun g o g' o' e e' => (by cases e'), fun g o e => by have := HIU.out q g o e; omega, fun g o e => by have := HIU.out q g o e; omega⟩, fun q => ⟨fun g o g' o' e e' => (by cases e'), fun g o e => by have := HOU.out q g o e; omega, fun g o e => by have := HOU.out q g o e; omega⟩⟩, H15.out, H17.out, World.ownsRow_nil U base 27 4, by omega, HNUM.out.1, HNUM.out.2.1⟩
  have HLO := Lib.hid (show w.heap.size ≤ kb ∧ w.heap.size ≤ kw ∧ w.heap.size ≤ kl by have := HNUM.out; omega)
  have HLB := Lib.hid (show w.heap.size ≤ base by have := HNUM.out; omega)
  have HWT0 := Lib.hid hwt
  have HB0 := H16
  clear hwt hkb hkw hkl HKU HIU HOU HUS H12 H13 H14 H15 H17
  go_loopw [8, 10] (fun lv iv wr => ∃ (i : Nat) (la : Option Addr) (lc : Nat) (L : List Od) (v : Int) (D : Nat) (c : Int) (z : Od) (V : List Int) (M : List Od), i ≤ l.length ∧ iv = .int .i64 (i : Int) ∧ lv = .slice la L.length lc ∧ Hid (TrZ L D v c z V M) ∧ Hid (WT base kb kw kl la lc L v D c z V M wr) ∧ Hid (Below w.heap.size w wr)) (fun _ iv _ => l.length - (intOf iv).toNat)
  case atStart => exact ⟨0, none, 0, [], st % 4, 0, -1, ⟨-1, 0, 0, 0⟩, V0, M0, by omega, rfl, rfl, HTR0, HWT0, HB0⟩
  case round =>
    obtain ⟨i, la, lc, L, v, D, c, z, V, M, hi, rfl, rfl, HTR, HT, HW⟩ := hrel
    clear HTR0 HWT0 HB0
    by_cases hlt : i < l.length
    rotate_left
    · obtain rfl : i = l.length := by omega
      go_wp2
      go_ret
      exact ⟨rfl, HW.out⟩
    have HIL := Lib.hid (show i + 1 ≤ l.length from hlt)
    obtain ⟨bk, ok, rfl, y0, y1, y2⟩ := ks_get (HK.out.step HW.out) hlt
    have yz := World.block_lt_of_cell? _ _ y0
    have t1 : (i : Int) < (l.length : Int) := by omega
    obtain ⟨yv, hyv⟩ : ∃ z9, l.getD i 0 = z9 := ⟨_, rfl⟩
    rw [hyv] at y0 y1 y2
    have y1 : 0 ≤ yv := y1
    have y2 : yv ≤ 65535 := y2
    have HY1 := Lib.hid (show 0 ≤ yv ∧ yv ≤ 65535 from ⟨y1, y2⟩)
    have HN8 := Lib.hid (show 0 ≤ yv / 8 ∧ yv / 8 ≤ 100000 by omega)
    clear hyv
    have hr8 : yv % 8 = 0 ∨ yv % 8 = 1 ∨ yv % 8 = 2 ∨ yv % 8 = 3 ∨ yv % 8 = 4 ∨ yv % 8 = 5 ∨ yv % 8 = 6 ∨ yv % 8 = 7 := by omega
    rcases hr8 with hr8 | hr8 | hr8 | hr8 | hr8 | hr8 | hr8 | hr8
    · skip
      obtain ⟨ua, uc, fa, fc, hx9, hr9, hf8, hf9⟩ := HT.out.bb
      have H301 := Lib.hid (hx9)
      have H302 := Lib.hid (hr9)
      clear hx9 hr9 hf8 hf9
      have xZ0 := HT.out.zb.c 0 rfl
      have xZ1 := HT.out.zb.c 1 rfl
      have xZ2 := HT.out.zb.c 2 rfl
      have xZ3 := HT.out.zb.c 3 rfl
      have xZz := HT.out.zb.2.2
      go_wp2_with fail
      refine (made_any z.a z.b z.c z.d (yv / 8) HTR.out.za HTR.out.zb HN8.out _).mono ?_
      rintro e u31 ⟨oA, oB, oE, rfl, hoA, -, b31⟩
      clear xZ0 xZ1 xZ2 xZ3 xZz
      have H303 := Lib.hid (HT.out.step b31)
      clear HT
      have H304 := Lib.hid (H301.out.step b31)
      clear H301
      have H305 := Lib.hid (H302.out.step b31)
      clear H302
      have H306 := Lib.hid (keep2 b31 HW.out)
      clear HW
      clear b31
      have HOA := Lib.hid hoA
      clear hoA
      have HOB := Lib.hid (show u31.heap.size ≠ kb by have := (cs_of_box H304.out).2.2; omega)
      have HOB2 := Lib.hid (show ∀ g o, la = some ⟨g, o, none⟩ → g ≠ u31.heap.size from fun g o e => by have := row_lt H303.out.row g o e; omega)
      have H307 := Lib.hid (H303.out.step (al u31 (.cells #[.int .i64 oA, .int .i64 oB, .int .i64 0, .int .i64 oE] 27)))
      clear H303
      have H308 := Lib.hid (H304.out.step (al u31 (.cells #[.int .i64 oA, .int .i64 oB, .int .i64 0, .int .i64 oE] 27)))
      clear H304
      have H309 := Lib.hid (H305.out.step (al u31 (.cells #[.int .i64 oA, .int .i64 oB, .int .i64 0, .int .i64 oE] 27)))
      clear H305
      have H310 := Lib.hid (keep2 (al u31 (.cells #[.int .i64 oA, .int .i64 oB, .int .i64 0, .int .i64 oE] 27)) H306.out)
      clear H306
      have H311 := Lib.hid (Cs.new u31 (u31.heap.size) #[.int .i64 oA, .int .i64 oB, .int .i64 0, .int .i64 oE] 27 (by simp))
      obtain ⟨E1, hE1⟩ : ∃ z9, snE V M ⟨oA, oB, 0, oE⟩ = z9 := ⟨_, rfl⟩
      obtain ⟨V1, hV1⟩ : ∃ z9, rV E1 (M ++ [⟨oA, oB, 0, oE⟩]) = z9 := ⟨_, rfl⟩
      obtain ⟨M1, hM1⟩ : ∃ z9, rM E1 (M ++ [⟨oA, oB, 0, oE⟩]) = z9 := ⟨_, rfl⟩
      have HE1 := Lib.hid hE1
      have HV1 := Lib.hid hV1
      have HM1 := Lib.hid hM1
      clear hE1 hV1 hM1
      have xX0 := (cs_of_box H308.out).c 0 rfl
      have xX1 := (cs_of_box H308.out).c 1 rfl
      have xXz := (cs_of_box H308.out).2.2
      have xO0 : (u31.alloc (.cells #[.int .i64 oA, .int .i64 oB, .int .i64 0, .int .i64 oE] 27)).cell? ⟨(u31.heap.size), 0, none⟩ = some (.int .i64 oA) := H311.out.c 0 rfl
      have xO1 : (u31.alloc (.cells #[.int .i64 oA, .int .i64 oB, .int .i64 0, .int .i64 oE] 27)).cell? ⟨(u31.heap.size), 1, none⟩ = some (.int .i64 oB) := H311.out.c 1 rfl
      have xO2 : (u31.alloc (.cells #[.int .i64 oA, .int .i64 oB, .int .i64 0, .int .i64 oE] 27)).cell? ⟨(u31.heap.size), 2, none⟩ = some (.int .i64 0) := H311.out.c 2 rfl
      have xO3 : (u31.alloc (.cells #[.int .i64 oA, .int .i64 oB, .int .i64 0, .int .i64 oE] 27)).cell? ⟨(u31.heap.size), 3, none⟩ = some (.int .i64 oE) := H311.out.c 3 rfl
      have zO : (u31.heap.size) < (u31.alloc (.cells #[.int .i64 oA, .int .i64 oB, .int .i64 0, .int .i64 oE] 27)).heap.size := H311.out.2.2
      go_wp2_with fail
      have HP := Lib.hid (And.intro (row_lt H307.out.row) (And.intro H307.out.wb.2.2 H307.out.zb.2.2))
      refine (sent_f ⟨oA, oB, 0, oE⟩ HE1.out HV1.out HM1.out ua uc fa fc _ H309.out HTR.out.lens.1 HTR.out.lens.2).mono ?_
      rintro e u32 ⟨ua1, uc1, fa1, fc1, rfl, b32, hr1, hf1, hf2⟩
      clear xX0 xX1 xXz xO0 xO1 xO2 xO3 zO
      have H312 := Lib.hid (H307.out.step b32)
      clear H307
      have H313 := Lib.hid (H308.out.step b32)
      clear H308
      have H314 := Lib.hid (H309.out.step b32)
      clear H309
      have H315 := Lib.hid (H311.out.step b32)
      clear H311
      have H316 := Lib.hid (keep2 b32 H310.out)
      clear H310
      clear b32
      have HFA := Lib.hid (far_fresh hf1 HP.out.1 HP.out.2.1 HP.out.2.2)
      have HFB := Lib.hid (far_fresh hf2 HP.out.1 HP.out.2.1 HP.out.2.2)
      clear hf1 hf2
      have H317 := Lib.hid (hr1)
      clear hr1
      have H318 := Lib.hid (H312.out.step (al u32 (.cells #[.slice ua1 V1.length uc1, .slice fa1 M1.length fc1] 25)))
      clear H312
      have H319 := Lib.hid (H313.out.step (al u32 (.cells #[.slice ua1 V1.length uc1, .slice fa1 M1.length fc1] 25)))
      clear H313
      have H320 := Lib.hid (H314.out.step (al u32 (.cells #[.slice ua1 V1.length uc1, .slice fa1 M1.length fc1] 25)))
      clear H314
      have H321 := Lib.hid (H315.out.step (al u32 (.cells #[.slice ua1 V1.length uc1, .slice fa1 M1.length fc1] 25)))
      clear H315
      have H322 := Lib.hid (H317.out.step (al u32 (.cells #[.slice ua1 V1.length uc1, .slice fa1 M1.length fc1] 25)))
      clear H317
      have H323 := Lib.hid (keep2 (al u32 (.cells #[.slice ua1 V1.length uc1, .slice fa1 M1.length fc1] 25)) H316.out)
      clear H316
      have H324 := Lib.hid (Cs.new u32 (u32.heap.size) #[.slice ua1 V1.length uc1, .slice fa1 M1.length fc1] 25 (by simp))
      by_cases hl20 : L.length < 20
      rotate_left
      · skip
        have g1 : decide ((L.length : Int) < 20) = false := decide_eq_false (by omega)
        have g2 : ¬ (L.length : Int) < 20 := by omega
        have HCAN := Lib.hid (HTR.out.tr.can)
        have HLV := Lib.hid HTR.out.lens.2
        have xX0 := (cs_of_box H319.out).c 0 rfl
        have xX1 := (cs_of_box H319.out).c 1 rfl
        have xXz := (cs_of_box H319.out).2.2
        have xW0 := H318.out.wb.c 0 rfl
        have xWz := H318.out.wb.2.2
        go_wp2_with fail
        refine (can_r _ _ V v true HCAN.out _ H320.out.1 HLV.out).mono ?_
        rintro e u33 ⟨rfl, b33⟩
        clear xX0 xX1 xXz xW0 xWz
        have H325 := Lib.hid (H318.out.step b33)
        clear H318
        have H326 := Lib.hid (H319.out.step b33)
        clear H319
        have H327 := Lib.hid (H320.out.step b33)
        clear H320
        have H328 := Lib.hid (H321.out.step b33)
        clear H321
        have H329 := Lib.hid (H322.out.step b33)
        clear H322
        have H330 := Lib.hid (H324.out.step b33)
        clear H324
        have H331 := Lib.hid (keep2 b33 H323.out)
        clear H323
        clear b33
        have t9 : i ≤ 1000 := by have h1 := HIL.out; have h2 := H9.out; omega
        go_wp2
        go_roundw
        case rel => exact ⟨i + 1, la, lc, L, v, D, c, z, V, M, HIL.out, (by first | rfl | go_num), rfl, HTR, H325, H331⟩
        case measure => exact meas_any HIL.out H9.out
      have g1 : decide ((L.length : Int) < 20) = true := decide_eq_true (by omega)
      have g2 : (L.length : Int) < 20 := by omega
      by_cases hz : E1 = 0
      rotate_left
      · skip
        have g3 : (E1 == 0) = false := by simpa using hz
        have HCAN := Lib.hid (HTR.out.tr.can)
        have HLV := Lib.hid HTR.out.lens.2
        have xX0 := (cs_of_box H319.out).c 0 rfl
        have xX1 := (cs_of_box H319.out).c 1 rfl
        have xXz := (cs_of_box H319.out).2.2
        have xW0 := H318.out.wb.c 0 rfl
        have xWz := H318.out.wb.2.2
        go_wp2_with fail
        refine (can_r _ _ V v true HCAN.out _ H320.out.1 HLV.out).mono ?_
        rintro e u33 ⟨rfl, b33⟩
        clear xX0 xX1 xXz xW0 xWz
        have H325 := Lib.hid (H318.out.step b33)
        clear H318
        have H326 := Lib.hid (H319.out.step b33)
        clear H319
        have H327 := Lib.hid (H320.out.step b33)
        clear H320
        have H328 := Lib.hid (H321.out.step b33)
        clear H321
        have H329 := Lib.hid (H322.out.step b33)
        clear H322
        have H330 := Lib.hid (H324.out.step b33)
        clear H324
        have H331 := Lib.hid (keep2 b33 H323.out)
        clear H323
        clear b33
        have t9 : i ≤ 1000 := by have h1 := HIL.out; have h2 := H9.out; omega
        go_wp2
        go_roundw
        case rel => exact ⟨i + 1, la, lc, L, v, D, c, z, V, M, HIL.out, (by first | rfl | go_num), rfl, HTR, H325, H331⟩
        case measure => exact meas_any HIL.out H9.out
      subst hz
      have HTR1 := Lib.hid (HTR.out.sent HOA.out hl20 HE1.out)
      rw [HV1.out, HM1.out] at HTR1
      have HL20 := Lib.hid hl20
      obtain ⟨W5, hW5⟩ : ∃ z9, (u32.alloc (.cells #[.slice ua1 V1.length uc1, .slice fa1 M1.length fc1] 25)) = z9 := ⟨_, rfl⟩
      have HW5 := Lib.hid hW5
      rw [hW5] at H318 H319 H320 H321 H322 H324 H323
      clear hW5
      go_upto_region 18 with fail
      rw [HW5.out]
      have x10 : W5.cell? ⟨(u32.heap.size), 0, none⟩ = some (.slice ua1 V1.length uc1) := H324.out.c 0 rfl
      have x11 : W5.cell? ⟨(u32.heap.size), 1, none⟩ = some (.slice fa1 M1.length fc1) := H324.out.c 1 rfl
      have z1 : (u32.heap.size) < W5.heap.size := H324.out.2.2
      have xX0 := (cs_of_box H319.out).c 0 rfl
      have xX1 := (cs_of_box H319.out).c 1 rfl
      have xXz := (cs_of_box H319.out).2.2
      have yX0 := (cs_of_box H319.out).f 0 (by simp)
      have yX1 := (cs_of_box H319.out).f 1 (by simp)
      go_upto_region 19 with fail
      have ht := H318.out.putB H322.out (fun _ => HFA.out) (fun _ => HFB.out)
      have ho := (putB_chg W5 kb (.slice ua1 V1.length uc1) (.slice fa1 M1.length fc1)).cs (show (u31.heap.size) ≠ kb from HOB.out) H321.out
      have hb := H323.out.trans (putB_below (w := W5) (.slice ua1 V1.length uc1) (.slice fa1 M1.length fc1) HLO.out.1)
      change Code.wp _ _ _ _ (putB W5 kb (.slice ua1 V1.length uc1) (.slice fa1 M1.length fc1))
      obtain ⟨W6, hW6⟩ : ∃ z9, (putB W5 kb (.slice ua1 V1.length uc1) (.slice fa1 M1.length fc1)) = z9 := ⟨_, rfl⟩
      rw [hW6] at ht ho hb ⊢
      have HT6 := Lib.hid ht
      have HO6 := Lib.hid ho
      have HB6 := Lib.hid hb
      clear ht ho hb hW6
      clear x10 x11 z1 xX0 xX1 xXz yX0 yX1
      have xO0 : W6.cell? ⟨(u31.heap.size), 0, none⟩ = some (.int .i64 oA) := HO6.out.c 0 rfl
      have xO1 : W6.cell? ⟨(u31.heap.size), 1, none⟩ = some (.int .i64 oB) := HO6.out.c 1 rfl
      have xO2 : W6.cell? ⟨(u31.heap.size), 2, none⟩ = some (.int .i64 0) := HO6.out.c 2 rfl
      have xO3 : W6.cell? ⟨(u31.heap.size), 3, none⟩ = some (.int .i64 oE) := HO6.out.c 3 rfl
      have zO : (u31.heap.size) < W6.heap.size := HO6.out.2.2
      have HA7 := Lib.hid (HT6.out.step (al W6 (.cells #[.int .i64 oA, .int .i64 oB, .int .i64 0, .int .i64 oE] 27)))
      have HB7 := Lib.hid (keep2 (al W6 (.cells #[.int .i64 oA, .int .i64 oB, .int .i64 0, .int .i64 oE] 27)) HB6.out)
      have HO7 := Lib.hid (HO6.out.alloc (.cells #[.int .i64 oA, .int .i64 oB, .int .i64 0, .int .i64 oE] 27))
      have HX7 := Lib.hid (BoxN.new W6 #[.int .i64 oA, .int .i64 oB, .int .i64 0, .int .i64 oE] 27)
      have HNB := Lib.hid (show ∀ j u, ([.int .i64 oA, .int .i64 oB, .int .i64 0, .int .i64 oE] : List Value)[j]? = some u → (W6.alloc (.cells #[.int .i64 oA, .int .i64 oB, .int .i64 0, .int .i64 oE] 27)).cell? ((⟨W6.heap.size, 0, none⟩ : Addr).add j) = some u from World.news_of_block HX7.out)
      obtain ⟨i0, hi0, hz0, hz1, hz2⟩ := info_parts od_info
      have hL9 : L.length ≤ 20 := by have := HL20.out; omega
      obtain ⟨n1, n2, n3, n4⟩ : ¬ kb = kl ∧ ¬ kl = kb ∧ ¬ kw = kl ∧ ¬ kl = kw := ⟨HT6.out.k2.2.1, Ne.symm HT6.out.k2.2.1, HT6.out.k2.2.2, Ne.symm HT6.out.k2.2.2⟩
      go_wp2_with (at_builtin; refine wpList_append_own_at _ rfl _ _ 23 rfl base 27 i0 _ 4 32 Try.underlying23 hi0 hz0 hz1 hz2 rfl (by decide) _ _ _ rfl HA7.out.row ⟨W6.heap.size, 0, none⟩ 1 1 [.int .i64 oA, .int .i64 oB, .int .i64 0, .int .i64 oE] rfl rfl HNB.out (by simp [Value.oneCell']) (by unfold maxLen; omega) (by omega) HA7.out.bs ?_; intro v8 w8 ho8 hg8 _ hd8; obtain ⟨la8, lc8, rfl⟩ := row_slice ho8; have HT8 := Lib.hid (app_wt (x := ⟨oA, oB, 0, oE⟩) HA7.out hg8 ho8 hd8); have HB8 := Lib.hid (HA7.out.below HB7.out HLB.out hg8 HA7.out.row HB7.out.size); have HO8 := Lib.hid (app_cs HA7.out hg8 HO7.out HOB2.out); clear ho8 hg8 hd8; have o0 := HO8.out.c 0 rfl; have o1 := HO8.out.c 1 rfl; have o2 := HO8.out.c 2 rfl; have o3 := HO8.out.c 3 rfl; have oz := HO8.out.2.2; have q0 := HT8.out.zb.c 0 rfl; have q1 := HT8.out.zb.c 1 rfl; have q2 := HT8.out.zb.c 2 rfl; have q3 := HT8.out.zb.c 3 rfl; have p0 := HT8.out.zb.f 0 (by simp); have p1 := HT8.out.zb.f 1 (by simp); have p2 := HT8.out.zb.f 2 (by simp); have p3 := HT8.out.zb.f 3 (by simp); have qz := HT8.out.zb.2.2; have m0 := HT8.out.wb.c 0 rfl; have mz := HT8.out.wb.2.2; obtain ⟨ua8, uc8, fa8, fc8, hx8, hr8, hf8, hf9⟩ := HT8.out.bb; have k0 := (cs_of_box hx8).c 0 rfl; have k1 := (cs_of_box hx8).c 1 rfl; have kz := (cs_of_box hx8).2.2; have HRB8 := Lib.hid hr8; have HF8 := Lib.hid hf8; have HF9 := Lib.hid hf9; clear hx8 hr8 hf8 hf9)
      have hcz := Cs.set (Cs.set (Cs.set (Cs.set HT8.out.zb 0 (by simp) (.int .i64 oA) rfl) 1 (by simp) (.int .i64 oB) rfl) 2 (by simp) (.int .i64 0) rfl) 3 (by simp) (.int .i64 oE) (vs' := #[.int .i64 oA, .int .i64 oB, .int .i64 0, .int .i64 oE]) rfl
      have hcg := ((((Chg.of (k := kl) (Below.refl _ w8)).set 0 (.int .i64 oA)).set 1 (.int .i64 oB)).set 2 (.int .i64 0)).set 3 (.int .i64 oE)
      have ht9 := HT8.out.setZ (z' := ⟨oA, oB, 0, oE⟩) hcg hcz
      have hb9 := HB8.out.trans (hcg.below HLO.out.2.2 HB8.out.size)
      have HCAN := Lib.hid (HTR1.out.tr.can)
      have HLV := Lib.hid HTR1.out.lens.2
      have HRB9 := Lib.hid (rb_chg HRB8.out hcg (fun q => (HF8.out q).2.2) (fun q => (HF9.out q).2.2))
      obtain ⟨W9, hW9⟩ : ∃ z9, ((((w8.setCell ⟨kl, 0, none⟩ (.int .i64 oA)).setCell ⟨kl, 1, none⟩ (.int .i64 oB)).setCell ⟨kl, 2, none⟩ (.int .i64 0)).setCell ⟨kl, 3, none⟩ (.int .i64 oE)) = z9 := ⟨_, rfl⟩
      rw [hW9] at ht9 hb9 HRB9 ⊢
      have HT9 := Lib.hid ht9
      have HB9 := Lib.hid hb9
      clear hcz hcg ht9 hb9 o0 o1 o2 o3 oz q0 q1 q2 q3 p0 p1 p2 p3 qz m0 mz k0 k1 kz n1 n2 n3 n4
      refine (can_r _ _ V1 v true HCAN.out _ HRB9.out.1 HLV.out).mono ?_
      rintro e w10 ⟨rfl, b10⟩
      have HT10 := Lib.hid (HT9.out.step b10)
      have HB10 := Lib.hid (keep2 b10 HB9.out)
      clear b10
      go_wp2
      go_roundw
      case rel => exact ⟨i + 1, la8, lc8, L ++ [⟨oA, oB, 0, oE⟩], v, D, c, ⟨oA, oB, 0, oE⟩, V1, M1, HIL.out, (by first | rfl | go_num), (by simp), HTR1, HT10, HB10⟩
      case measure => exact meas_any HIL.out H9.out
    · skip
      obtain ⟨ua, uc, fa, fc, hx9, hr9, hf8, hf9⟩ := HT.out.bb
      have H301 := Lib.hid (hx9)
      have H302 := Lib.hid (hr9)
      clear hx9 hr9 hf8 hf9
      have xZ0 := HT.out.zb.c 0 rfl
      have xZ1 := HT.out.zb.c 1 rfl
      have xZ2 := HT.out.zb.c 2 rfl
      have xZ3 := HT.out.zb.c 3 rfl
      have xZz := HT.out.zb.2.2
      go_wp2_with fail
      refine (made_any z.a z.b z.c z.d (yv / 8) HTR.out.za HTR.out.zb HN8.out _).mono ?_
      rintro e u31 ⟨oA, oB, oE, rfl, hoA, -, b31⟩
      clear xZ0 xZ1 xZ2 xZ3 xZz
      have H303 := Lib.hid (HT.out.step b31)
      clear HT
      have H304 := Lib.hid (H301.out.step b31)
      clear H301
      have H305 := Lib.hid (H302.out.step b31)
      clear H302
      have H306 := Lib.hid (keep2 b31 HW.out)
      clear HW
      clear b31
      have HOA := Lib.hid hoA
      clear hoA
      have HOB := Lib.hid (show u31.heap.size ≠ kb by have := (cs_of_box H304.out).2.2; omega)
      have HOB2 := Lib.hid (show ∀ g o, la = some ⟨g, o, none⟩ → g ≠ u31.heap.size from fun g o e => by have := row_lt H303.out.row g o e; omega)
      have H307 := Lib.hid (H303.out.step (al u31 (.cells #[.int .i64 oA, .int .i64 oB, .int .i64 0, .int .i64 oE] 27)))
      clear H303
      have H308 := Lib.hid (H304.out.step (al u31 (.cells #[.int .i64 oA, .int .i64 oB, .int .i64 0, .int .i64 oE] 27)))
      clear H304
      have H309 := Lib.hid (H305.out.step (al u31 (.cells #[.int .i64 oA, .int .i64 oB, .int .i64 0, .int .i64 oE] 27)))
      clear H305
      have H310 := Lib.hid (keep2 (al u31 (.cells #[.int .i64 oA, .int .i64 oB, .int .i64 0, .int .i64 oE] 27)) H306.out)
      clear H306
      have H311 := Lib.hid (Cs.new u31 (u31.heap.size) #[.int .i64 oA, .int .i64 oB, .int .i64 0, .int .i64 oE] 27 (by simp))
      obtain ⟨E1, hE1⟩ : ∃ z9, snE V M ⟨oA, oB, 0, oE⟩ = z9 := ⟨_, rfl⟩
      obtain ⟨V1, hV1⟩ : ∃ z9, rV E1 (M ++ [⟨oA, oB, 0, oE⟩]) = z9 := ⟨_, rfl⟩
      obtain ⟨M1, hM1⟩ : ∃ z9, rM E1 (M ++ [⟨oA, oB, 0, oE⟩]) = z9 := ⟨_, rfl⟩
      have HE1 := Lib.hid hE1
      have HV1 := Lib.hid hV1
      have HM1 := Lib.hid hM1
      clear hE1 hV1 hM1
      have xX0 := (cs_of_box H308.out).c 0 rfl
      have xX1 := (cs_of_box H308.out).c 1 rfl
      have xXz := (cs_of_box H308.out).2.2
      have xO0 : (u31.alloc (.cells #[.int .i64 oA, .int .i64 oB, .int .i64 0, .int .i64 oE] 27)).cell? ⟨(u31.heap.size), 0, none⟩ = some (.int .i64 oA) := H311.out.c 0 rfl
      have xO1 : (u31.alloc (.cells #[.int .i64 oA, .int .i64 oB, .int .i64 0, .int .i64 oE] 27)).cell? ⟨(u31.heap.size), 1, none⟩ = some (.int .i64 oB) := H311.out.c 1 rfl
      have xO2 : (u31.alloc (.cells #[.int .i64 oA, .int .i64 oB, .int .i64 0, .int .i64 oE] 27)).cell? ⟨(u31.heap.size), 2, none⟩ = some (.int .i64 0) := H311.out.c 2 rfl
      have xO3 : (u31.alloc (.cells #[.int .i64 oA, .int .i64 oB, .int .i64 0, .int .i64 oE] 27)).cell? ⟨(u31.heap.size), 3, none⟩ = some (.int .i64 oE) := H311.out.c 3 rfl
      have zO : (u31.heap.size) < (u31.alloc (.cells #[.int .i64 oA, .int .i64 oB, .int .i64 0, .int .i64 oE] 27)).heap.size := H311.out.2.2
      go_wp2_with fail
      have HP := Lib.hid (And.intro (row_lt H307.out.row) (And.intro H307.out.wb.2.2 H307.out.zb.2.2))
      refine (sent_f ⟨oA, oB, 0, oE⟩ HE1.out HV1.out HM1.out ua uc fa fc _ H309.out HTR.out.lens.1 HTR.out.lens.2).mono ?_
      rintro e u32 ⟨ua1, uc1, fa1, fc1, rfl, b32, hr1, hf1, hf2⟩
      clear xX0 xX1 xXz xO0 xO1 xO2 xO3 zO
      have H312 := Lib.hid (H307.out.step b32)
      clear H307
      have H313 := Lib.hid (H308.out.step b32)
      clear H308
      have H314 := Lib.hid (H309.out.step b32)
      clear H309
      have H315 := Lib.hid (H311.out.step b32)
      clear H311
      have H316 := Lib.hid (keep2 b32 H310.out)
      clear H310
      clear b32
      have HFA := Lib.hid (far_fresh hf1 HP.out.1 HP.out.2.1 HP.out.2.2)
      have HFB := Lib.hid (far_fresh hf2 HP.out.1 HP.out.2.1 HP.out.2.2)
      clear hf1 hf2
      have H317 := Lib.hid (hr1)
      clear hr1
      have H318 := Lib.hid (H312.out.step (al u32 (.cells #[.slice ua1 V1.length uc1, .slice fa1 M1.length fc1] 25)))
      clear H312
      have H319 := Lib.hid (H313.out.step (al u32 (.cells #[.slice ua1 V1.length uc1, .slice fa1 M1.length fc1] 25)))
      clear H313
      have H320 := Lib.hid (H314.out.step (al u32 (.cells #[.slice ua1 V1.length uc1, .slice fa1 M1.length fc1] 25)))
      clear H314
      have H321 := Lib.hid (H315.out.step (al u32 (.cells #[.slice ua1 V1.length uc1, .slice fa1 M1.length fc1] 25)))
      clear H315
      have H322 := Lib.hid (H317.out.step (al u32 (.cells #[.slice ua1 V1.length uc1, .slice fa1 M1.length fc1] 25)))
      clear H317
      have H323 := Lib.hid (keep2 (al u32 (.cells #[.slice ua1 V1.length uc1, .slice fa1 M1.length fc1] 25)) H316.out)
      clear H316
      have H324 := Lib.hid (Cs.new u32 (u32.heap.size) #[.slice ua1 V1.length uc1, .slice fa1 M1.length fc1] 25 (by simp))
      by_cases hl20 : L.length < 20
      rotate_left
      · skip
        have g1 : decide ((L.length : Int) < 20) = false := decide_eq_false (by omega)
        have g2 : ¬ (L.length : Int) < 20 := by omega
        have HCAN := Lib.hid (HTR.out.tr.can)
        have HLV := Lib.hid HTR.out.lens.2
        have xX0 := (cs_of_box H319.out).c 0 rfl
        have xX1 := (cs_of_box H319.out).c 1 rfl
        have xXz := (cs_of_box H319.out).2.2
        have xW0 := H318.out.wb.c 0 rfl
        have xWz := H318.out.wb.2.2
        go_wp2_with fail
        refine (can_r _ _ V v true HCAN.out _ H320.out.1 HLV.out).mono ?_
        rintro e u33 ⟨rfl, b33⟩
        clear xX0 xX1 xXz xW0 xWz
        have H325 := Lib.hid (H318.out.step b33)
        clear H318
        have H326 := Lib.hid (H319.out.step b33)
        clear H319
        have H327 := Lib.hid (H320.out.step b33)
        clear H320
        have H328 := Lib.hid (H321.out.step b33)
        clear H321
        have H329 := Lib.hid (H322.out.step b33)
        clear H322
        have H330 := Lib.hid (H324.out.step b33)
        clear H324
        have H331 := Lib.hid (keep2 b33 H323.out)
        clear H323
        clear b33
        have t9 : i ≤ 1000 := by have h1 := HIL.out; have h2 := H9.out; omega
        go_wp2
        go_roundw
        case rel => exact ⟨i + 1, la, lc, L, v, D, c, z, V, M, HIL.out, (by first | rfl | go_num), rfl, HTR, H325, H331⟩
        case measure => exact meas_any HIL.out H9.out
      have g1 : decide ((L.length : Int) < 20) = true := decide_eq_true (by omega)
      have g2 : (L.length : Int) < 20 := by omega
      by_cases hz : E1 = 0
      rotate_left
      · skip
        have g3 : (E1 == 0) = false := by simpa using hz
        have HCAN := Lib.hid (HTR.out.tr.can)
        have HLV := Lib.hid HTR.out.lens.2
        have xX0 := (cs_of_box H319.out).c 0 rfl
        have xX1 := (cs_of_box H319.out).c 1 rfl
        have xXz := (cs_of_box H319.out).2.2
        have xW0 := H318.out.wb.c 0 rfl
        have xWz := H318.out.wb.2.2
        go_wp2_with fail
        refine (can_r _ _ V v true HCAN.out _ H320.out.1 HLV.out).mono ?_
        rintro e u33 ⟨rfl, b33⟩
        clear xX0 xX1 xXz xW0 xWz
        have H325 := Lib.hid (H318.out.step b33)
        clear H318
        have H326 := Lib.hid (H319.out.step b33)
        clear H319
        have H327 := Lib.hid (H320.out.step b33)
        clear H320
        have H328 := Lib.hid (H321.out.step b33)
        clear H321
        have H329 := Lib.hid (H322.out.step b33)
        clear H322
        have H330 := Lib.hid (H324.out.step b33)
        clear H324
        have H331 := Lib.hid (keep2 b33 H323.out)
        clear H323
        clear b33
        have t9 : i ≤ 1000 := by have h1 := HIL.out; have h2 := H9.out; omega
        go_wp2
        go_roundw
        case rel => exact ⟨i + 1, la, lc, L, v, D, c, z, V, M, HIL.out, (by first | rfl | go_num), rfl, HTR, H325, H331⟩
        case measure => exact meas_any HIL.out H9.out
      subst hz
      have HTR1 := Lib.hid (HTR.out.sent HOA.out hl20 HE1.out)
      rw [HV1.out, HM1.out] at HTR1
      have HL20 := Lib.hid hl20
      obtain ⟨W5, hW5⟩ : ∃ z9, (u32.alloc (.cells #[.slice ua1 V1.length uc1, .slice fa1 M1.length fc1] 25)) = z9 := ⟨_, rfl⟩
      have HW5 := Lib.hid hW5
      rw [hW5] at H318 H319 H320 H321 H322 H324 H323
      clear hW5
      go_upto_region 18 with fail
      rw [HW5.out]
      have x10 : W5.cell? ⟨(u32.heap.size), 0, none⟩ = some (.slice ua1 V1.length uc1) := H324.out.c 0 rfl
      have x11 : W5.cell? ⟨(u32.heap.size), 1, none⟩ = some (.slice fa1 M1.length fc1) := H324.out.c 1 rfl
      have z1 : (u32.heap.size) < W5.heap.size := H324.out.2.2
      have xX0 := (cs_of_box H319.out).c 0 rfl
      have xX1 := (cs_of_box H319.out).c 1 rfl
      have xXz := (cs_of_box H319.out).2.2
      have yX0 := (cs_of_box H319.out).f 0 (by simp)
      have yX1 := (cs_of_box H319.out).f 1 (by simp)
      go_upto_region 19 with fail
      have ht := H318.out.putB H322.out (fun _ => HFA.out) (fun _ => HFB.out)
      have ho := (putB_chg W5 kb (.slice ua1 V1.length uc1) (.slice fa1 M1.length fc1)).cs (show (u31.heap.size) ≠ kb from HOB.out) H321.out
      have hb := H323.out.trans (putB_below (w := W5) (.slice ua1 V1.length uc1) (.slice fa1 M1.length fc1) HLO.out.1)
      change Code.wp _ _ _ _ (putB W5 kb (.slice ua1 V1.length uc1) (.slice fa1 M1.length fc1))
      obtain ⟨W6, hW6⟩ : ∃ z9, (putB W5 kb (.slice ua1 V1.length uc1) (.slice fa1 M1.length fc1)) = z9 := ⟨_, rfl⟩
      rw [hW6] at ht ho hb ⊢
      have HT6 := Lib.hid ht
      have HO6 := Lib.hid ho
      have HB6 := Lib.hid hb
      clear ht ho hb hW6
      clear x10 x11 z1 xX0 xX1 xXz yX0 yX1
      have xO0 : W6.cell? ⟨(u31.heap.size), 0, none⟩ = some (.int .i64 oA) := HO6.out.c 0 rfl
      have xO1 : W6.cell? ⟨(u31.heap.size), 1, none⟩ = some (.int .i64 oB) := HO6.out.c 1 rfl
      have xO2 : W6.cell? ⟨(u31.heap.size), 2, none⟩ = some (.int .i64 0) := HO6.out.c 2 rfl
      have xO3 : W6.cell? ⟨(u31.heap.size), 3, none⟩ = some (.int .i64 oE) := HO6.out.c 3 rfl
      have zO : (u31.heap.size) < W6.heap.size := HO6.out.2.2
      have HA7 := Lib.hid (HT6.out.step (al W6 (.cells #[.int .i64 oA, .int .i64 oB, .int .i64 0, .int .i64 oE] 27)))
      have HB7 := Lib.hid (keep2 (al W6 (.cells #[.int .i64 oA, .int .i64 oB, .int .i64 0, .int .i64 oE] 27)) HB6.out)
      have HO7 := Lib.hid (HO6.out.alloc (.cells #[.int .i64 oA, .int .i64 oB, .int .i64 0, .int .i64 oE] 27))
      have HX7 := Lib.hid (BoxN.new W6 #[.int .i64 oA, .int .i64 oB, .int .i64 0, .int .i64 oE] 27)
      have HNB := Lib.hid (show ∀ j u, ([.int .i64 oA, .int .i64 oB, .int .i64 0, .int .i64 oE] : List Value)[j]? = some u → (W6.alloc (.cells #[.int .i64 oA, .int .i64 oB, .int .i64 0, .int .i64 oE] 27)).cell? ((⟨W6.heap.size, 0, none⟩ : Addr).add j) = some u from World.news_of_block HX7.out)
      obtain ⟨i0, hi0, hz0, hz1, hz2⟩ := info_parts od_info
      have hL9 : L.length ≤ 20 := by have := HL20.out; omega
      obtain ⟨n1, n2, n3, n4⟩ : ¬ kb = kl ∧ ¬ kl = kb ∧ ¬ kw = kl ∧ ¬ kl = kw := ⟨HT6.out.k2.2.1, Ne.symm HT6.out.k2.2.1, HT6.out.k2.2.2, Ne.symm HT6.out.k2.2.2⟩
      go_wp2_with (at_builtin; refine wpList_append_own_at _ rfl _ _ 23 rfl base 27 i0 _ 4 32 Try.underlying23 hi0 hz0 hz1 hz2 rfl (by decide) _ _ _ rfl HA7.out.row ⟨W6.heap.size, 0, none⟩ 1 1 [.int .i64 oA, .int .i64 oB, .int .i64 0, .int .i64 oE] rfl rfl HNB.out (by simp [Value.oneCell']) (by unfold maxLen; omega) (by omega) HA7.out.bs ?_; intro v8 w8 ho8 hg8 _ hd8; obtain ⟨la8, lc8, rfl⟩ := row_slice ho8; have HT8 := Lib.hid (app_wt (x := ⟨oA, oB, 0, oE⟩) HA7.out hg8 ho8 hd8); have HB8 := Lib.hid (HA7.out.below HB7.out HLB.out hg8 HA7.out.row HB7.out.size); have HO8 := Lib.hid (app_cs HA7.out hg8 HO7.out HOB2.out); clear ho8 hg8 hd8; have o0 := HO8.out.c 0 rfl; have o1 := HO8.out.c 1 rfl; have o2 := HO8.out.c 2 rfl; have o3 := HO8.out.c 3 rfl; have oz := HO8.out.2.2; have q0 := HT8.out.zb.c 0 rfl; have q1 := HT8.out.zb.c 1 rfl; have q2 := HT8.out.zb.c 2 rfl; have q3 := HT8.out.zb.c 3 rfl; have p0 := HT8.out.zb.f 0 (by simp); have p1 := HT8.out.zb.f 1 (by simp); have p2 := HT8.out.zb.f 2 (by simp); have p3 := HT8.out.zb.f 3 (by simp); have qz := HT8.out.zb.2.2; have m0 := HT8.out.wb.c 0 rfl; have mz := HT8.out.wb.2.2; obtain ⟨ua8, uc8, fa8, fc8, hx8, hr8, hf8, hf9⟩ := HT8.out.bb; have k0 := (cs_of_box hx8).c 0 rfl; have k1 := (cs_of_box hx8).c 1 rfl; have kz := (cs_of_box hx8).2.2; have HRB8 := Lib.hid hr8; have HF8 := Lib.hid hf8; have HF9 := Lib.hid hf9; clear hx8 hr8 hf8 hf9)
      have hcz := Cs.set (Cs.set (Cs.set (Cs.set HT8.out.zb 0 (by simp) (.int .i64 oA) rfl) 1 (by simp) (.int .i64 oB) rfl) 2 (by simp) (.int .i64 0) rfl) 3 (by simp) (.int .i64 oE) (vs' := #[.int .i64 oA, .int .i64 oB, .int .i64 0, .int .i64 oE]) rfl
      have hcg := ((((Chg.of (k := kl) (Below.refl _ w8)).set 0 (.int .i64 oA)).set 1 (.int .i64 oB)).set 2 (.int .i64 0)).set 3 (.int .i64 oE)
      have ht9 := HT8.out.setZ (z' := ⟨oA, oB, 0, oE⟩) hcg hcz
      have hb9 := HB8.out.trans (hcg.below HLO.out.2.2 HB8.out.size)
      have HCAN := Lib.hid (HTR1.out.tr.can)
      have HLV := Lib.hid HTR1.out.lens.2
      have HRB9 := Lib.hid (rb_chg HRB8.out hcg (fun q => (HF8.out q).2.2) (fun q => (HF9.out q).2.2))
      obtain ⟨W9, hW9⟩ : ∃ z9, ((((w8.setCell ⟨kl, 0, none⟩ (.int .i64 oA)).setCell ⟨kl, 1, none⟩ (.int .i64 oB)).setCell ⟨kl, 2, none⟩ (.int .i64 0)).setCell ⟨kl, 3, none⟩ (.int .i64 oE)) = z9 := ⟨_, rfl⟩
      rw [hW9] at ht9 hb9 HRB9 ⊢
      have HT9 := Lib.hid ht9
      have HB9 := Lib.hid hb9
      clear hcz hcg ht9 hb9 o0 o1 o2 o3 oz q0 q1 q2 q3 p0 p1 p2 p3 qz m0 mz k0 k1 kz n1 n2 n3 n4
      refine (can_r _ _ V1 v true HCAN.out _ HRB9.out.1 HLV.out).mono ?_
      rintro e w10 ⟨rfl, b10⟩
      have HT10 := Lib.hid (HT9.out.step b10)
      have HB10 := Lib.hid (keep2 b10 HB9.out)
      clear b10
      go_wp2
      go_roundw
      case rel => exact ⟨i + 1, la8, lc8, L ++ [⟨oA, oB, 0, oE⟩], v, D, c, ⟨oA, oB, 0, oE⟩, V1, M1, HIL.out, (by first | rfl | go_num), (by simp), HTR1, HT10, HB10⟩
      case measure => exact meas_any HIL.out H9.out
    · skip
      obtain ⟨ua, uc, fa, fc, hx9, hr9, hf8, hf9⟩ := HT.out.bb
      have H301 := Lib.hid (hx9)
      have H302 := Lib.hid (hr9)
      clear hx9 hr9 hf8 hf9
      by_cases hlp : 0 < L.length
      rotate_left
      · skip
        have g1 : decide ((0 : Int) < (L.length : Int)) = false := decide_eq_false (by omega)
        have g2 : ¬ (0 : Int) < (L.length : Int) := by omega
        have g3 : ¬ 0 < L.length := by omega
        have HCAN := Lib.hid (HTR.out.tr.can)
        have HLV := Lib.hid HTR.out.lens.2
        have xX0 := (cs_of_box H301.out).c 0 rfl
        have xX1 := (cs_of_box H301.out).c 1 rfl
        have xXz := (cs_of_box H301.out).2.2
        have xW0 := HT.out.wb.c 0 rfl
        have xWz := HT.out.wb.2.2
        go_wp2_with fail
        refine (can_r _ _ V v true HCAN.out _ H302.out.1 HLV.out).mono ?_
        rintro e u31 ⟨rfl, b31⟩
        clear xX0 xX1 xXz xW0 xWz
        have H303 := Lib.hid (HT.out.step b31)
        clear HT
        have H304 := Lib.hid (H301.out.step b31)
        clear H301
        have H305 := Lib.hid (H302.out.step b31)
        clear H302
        have H306 := Lib.hid (keep2 b31 HW.out)
        clear HW
        clear b31
        have t9 : i ≤ 1000 := by have h1 := HIL.out; have h2 := H9.out; omega
        go_wp2
        go_roundw
        case rel => exact ⟨i + 1, la, lc, L, v, D, c, z, V, M, HIL.out, (by first | rfl | go_num), rfl, HTR, H303, H306⟩
        case measure => exact meas_any HIL.out H9.out
      obtain ⟨k, hk, hkl⟩ := mod_nat HN8.out.1 hlp
      have HKL := Lib.hid hkl
      have HKM := Lib.hid hk
      have HKT := Lib.hid (show (yv / 8).tmod (L.length : Int) = k by rw [Int.tmod_eq_emod_of_nonneg HN8.out.1]; exact hk)
      have g1 : decide ((0 : Int) < (L.length : Int)) = true := decide_eq_true (by omega)
      have g2 : (0 : Int) < (L.length : Int) := by omega
      have g3 : ¬ (L.length : Int) = 0 := by omega
      have g4 : ¬ L = [] := by intro e; rw [e] at hlp; simp at hlp
      have g5 : ((L.length : Int) == 0) = false := by simp; exact g4
      have HEX := Lib.hid (HTR.out.exec hkl)
      clear hkl
      obtain ⟨ok2, hok2⟩ : ∃ z9, exB L D c k = z9 := ⟨_, rfl⟩
      rw [hok2] at HEX
      obtain ⟨v2, hv2⟩ : ∃ z9, exV ok2 L k v = z9 := ⟨_, rfl⟩
      obtain ⟨D2, hD2⟩ : ∃ z9, exD ok2 D k = z9 := ⟨_, rfl⟩
      rw [hv2, hD2] at HEX
      have HEC := Lib.hid (fun (w9 : World) (q9 : OdsAt w9 (.slice la L.length lc) L) => exec_any (.slice la L.length lc) L v D c k HTR.out.bit HTR.out.tr.len HKL.out HTR.out.num w9 q9)
      rw [hok2, hv2, hD2] at HEC
      clear hok2 hv2 hD2
      have HG3 := Lib.hid (And.intro g3 (And.intro g4 g5))
      clear hk
      go_upto_region 25 with fail
      clear g1 g2 g3 g4 g5 hlp hr8 y1 y2 t1 y0 yz hlt hi
      obtain ⟨W5, hW5⟩ : ∃ z9, wr = z9 := ⟨_, rfl⟩
      rw [hW5] at HT H301 H302 HW ⊢
      clear hW5
      obtain ⟨lit, hlit⟩ : ∃ lit : (Nat → Value) → Act, lit = fun vs => { tmps := List.toArray (Value.int IntKind.u8 st :: Value.slice (some { block := bk, off := ok }) l.length sc :: undef :: undef :: u4 :: Value.bool true :: Value.pointer (some { block := kb, off := 0 }) :: Value.pointer (some { block := kw, off := 0 }) :: Value.slice la L.length lc :: Value.pointer (some { block := kl, off := 0 }) :: Value.int IntKind.i64 (i : Int) :: Value.int IntKind.i64 (yv / 8) :: u12 :: u13 :: u14 :: u15 :: u16 :: u17 :: u18 :: u19 :: Value.bool true :: Value.slice (some { block := bk, off := ok }) l.length sc :: Value.int IntKind.i64 (l.length : Int) :: Value.bool (decide ((40 : Int) < (l.length : Int))) :: undef :: Value.int IntKind.u8 st :: Value.int IntKind.i64 st :: Value.int IntKind.i64 (st % 4) :: Value.agg #[Value.slice ua0 V0.length uc0, Value.slice fa0 M0.length fc0] :: Value.int IntKind.u8 st :: Value.int IntKind.i64 st :: Value.int IntKind.i64 (st % 4) :: Value.agg #[Value.int IntKind.i64 (st % 4), Value.int IntKind.i64 0, Value.int IntKind.i64 (-1)] :: Value.agg #[Value.int IntKind.i64 (-1), Value.int IntKind.i64 0, Value.int IntKind.i64 0, Value.int IntKind.i64 0] :: Value.int IntKind.i64 (i : Int) :: Value.slice (some { block := bk, off := ok }) l.length sc :: Value.int IntKind.i64 (l.length : Int) :: Value.bool true :: u38 :: u39 :: Value.slice (some { block := bk, off := ok }) l.length sc :: Value.int IntKind.i64 (i : Int) :: Value.pointer (some { block := bk, off := ok + i }) :: Value.int IntKind.u16 yv :: Value.int IntKind.i64 yv :: Value.int IntKind.i64 (yv / 8) :: Value.slice (some { block := bk, off := ok }) l.length sc :: Value.int IntKind.i64 (i : Int) :: Value.pointer (some { block := bk, off := ok + i }) :: Value.int IntKind.u16 yv :: Value.int IntKind.u16 (yv % 8) :: Value.bool false :: Value.bool false :: Value.bool false :: u54 :: u55 :: u56 :: u57 :: u58 :: u59 :: u60 :: u61 :: u62 :: u63 :: u64 :: u65 :: u66 :: u67 :: u68 :: u69 :: u70 :: u71 :: u72 :: u73 :: u74 :: u75 :: Value.bool true :: Value.bool true :: u78 :: u79 :: Value.slice la L.length lc :: Value.int IntKind.i64 (L.length : Int) :: Value.bool true :: vs 7 :: vs 0 :: vs 1 :: vs 2 :: vs 3 :: vs 4 :: vs 5 :: vs 6 :: vs 8 :: vs 9 :: u93 :: u94 :: u95 :: u96 :: u97 :: u98 :: u99 :: u100 :: u101 :: u102 :: u103 :: u104 :: u105 :: u106 :: u107 :: u108 :: u109 :: u110 :: u111 :: u112 :: u113 :: u114 :: u115 :: u116 :: u117 :: u118 :: u119 :: u120 :: u121 :: u122 :: u123 :: u124 :: u125 :: u126 :: u127 :: u128 :: u129 :: u130 :: u131 :: u132 :: u133 :: u134 :: u135 :: u136 :: u137 :: u138 :: u139 :: u140 :: u141 :: u142 :: u143 :: u144 :: u145 :: undef :: []), defers := [] } := ⟨_, rfl⟩
      have HLIT := Lib.hid hlit
      clear hlit
      obtain ⟨val, hval⟩ : ∃ val : List Value, val = [.slice la L.length lc, .agg #[.int .i64 v, .int .i64 (D : Int), .int .i64 c], .int .i64 (yv / 8), .slice la L.length lc, .int .i64 (L.length : Int), .int .i64 (k : Int), .tuple #[.agg #[.int .i64 v2, .int .i64 (D2 : Int), .int .i64 c], .bool ok2], .tuple #[.agg #[.int .i64 v2, .int .i64 (D2 : Int), .int .i64 c], .bool ok2], .agg #[.int .i64 v2, .int .i64 (D2 : Int), .int .i64 c], .bool ok2, undef] := ⟨_, rfl⟩
      have E0 := Lib.hid (show val.getD 0 undef = .slice la L.length lc by rw [hval]; rfl)
      have E1 := Lib.hid (show val.getD 1 undef = .agg #[.int .i64 v, .int .i64 (D : Int), .int .i64 c] by rw [hval]; rfl)
      have E2 := Lib.hid (show val.getD 2 undef = .int .i64 (yv / 8) by rw [hval]; rfl)
      have E3 := Lib.hid (show val.getD 3 undef = .slice la L.length lc by rw [hval]; rfl)
      have E4 := Lib.hid (show val.getD 4 undef = .int .i64 (L.length : Int) by rw [hval]; rfl)
      have E5 := Lib.hid (show val.getD 5 undef = .int .i64 (k : Int) by rw [hval]; rfl)
      have E6 := Lib.hid (show val.getD 6 undef = .tuple #[.agg #[.int .i64 v2, .int .i64 (D2 : Int), .int .i64 c], .bool ok2] by rw [hval]; rfl)
      have E7 := Lib.hid (show val.getD 7 undef = .tuple #[.agg #[.int .i64 v2, .int .i64 (D2 : Int), .int .i64 c], .bool ok2] by rw [hval]; rfl)
      have E8 := Lib.hid (show val.getD 8 undef = .agg #[.int .i64 v2, .int .i64 (D2 : Int), .int .i64 c] by rw [hval]; rfl)
      have E9 := Lib.hid (show val.getD 9 undef = .bool ok2 by rw [hval]; rfl)
      clear hval
      obtain ⟨G, hG0⟩ : ∃ G : Bool → Nat → Value → World → Prop, G = (fun bq iq vq ww => (iq ≠ 10 → vq = val.getD iq undef)) := ⟨_, rfl⟩
      have HG := Lib.hid hG0
      clear hG0
      refine region_inv (NS lit 10 (fun p q => (p == 10 && q == 0) || (p == 10 && q == 1) || (p == 10 && q == 2) || (p == 10 && q == 3) || (p == 10 && q == 4) || (p == 10 && q == 5) || (p == 10 && q == 6) || (p == 10 && q == 7) || (p == 10 && q == 8)) G fun bq wv => (bq = false → Below W5.heap.size W5 wv) ∧ (bq = true → WT base kb kw kl la lc L v2 D2 c z V M wv ∧ Below w.heap.size w wv)) (by kernel_rfl) (by decide +kernel) ?_ ?_ ?_
      · exact NS.start (fun i => ([u84, u85, u86, u87, u88, u89, u90, u83, u91, u92, undef] : List Value).getD i undef) (by rw [HLIT.out]; rfl) ⟨fun _ => below_drew _ _, fun h => (by cases h)⟩
      · refine ⟨?_, ?_, ?_, ?_, ?_, ?_, ?_, ?_, ?_, ?_, ?_, trivial⟩
        · intro bf ac wv hfb haf hJ K' hK
          obtain ⟨vs, rfl, ja, hB, j4⟩ := hJ
          replace hK := Lib.hid hK
          rw [HG.out] at j4
          replace j4 := Lib.hid (And.intro ja j4)
          replace hB := Lib.hid hB
          clear ja haf
          rw [HLIT.out]
          go_simp
          exact hK.out _ _ (NS.next (wv := wv) (vs := vs) 0 (by omega) (fun q h => absurd h (by simp)) (x := .slice la L.length lc) (by rw [HLIT.out]; rfl) (by rw [HG.out]; exact j4.out) hB.out (by rw [HG.out]; exact fun _ _ h => h) (by rw [HG.out]; exact fun _ => E0.out.symm))
        · intro bf ac wv hfb haf hJ K' hK
          obtain ⟨vs, rfl, ja, hB, j4⟩ := hJ
          replace hK := Lib.hid hK
          rw [HG.out] at j4
          have hd : bf 10 = false := by
            cases h : bf 10
            · rfl
            · exact absurd ((ja 10 1 rfl h).symm.trans hfb) (by simp)
          have hM := Lib.hid (hB.1 hd)
          replace j4 := Lib.hid (And.intro ja j4)
          replace hB := Lib.hid hB
          clear ja haf
          have xx := HT.out.wb.step hM.out
          have xx0 := xx.c 0 rfl
          have xx1 := xx.c 1 rfl
          have xx2 := xx.c 2 rfl
          have xxz := xx.2.2
          clear xx
          rw [HLIT.out]
          go_simp
          exact hK.out _ _ (NS.next (wv := wv) (vs := vs) 1 (by omega) (fun q h => absurd h (by simp)) (x := .agg #[.int .i64 v, .int .i64 (D : Int), .int .i64 c]) (by rw [HLIT.out]; rfl) (by rw [HG.out]; exact j4.out) hB.out (by rw [HG.out]; exact fun _ _ h => h) (by rw [HG.out]; exact fun _ => E1.out.symm))
        · intro bf ac wv hfb haf hJ K' hK
          obtain ⟨vs, rfl, ja, hB, j4⟩ := hJ
          replace hK := Lib.hid hK
          rw [HG.out] at j4
          replace j4 := Lib.hid (And.intro ja j4)
          replace hB := Lib.hid hB
          clear ja haf
          rw [HLIT.out]
          go_simp
          exact hK.out _ _ (NS.next (wv := wv) (vs := vs) 2 (by omega) (fun q h => absurd h (by simp)) (x := .int .i64 (yv / 8)) (by rw [HLIT.out]; rfl) (by rw [HG.out]; exact j4.out) hB.out (by rw [HG.out]; exact fun _ _ h => h) (by rw [HG.out]; exact fun _ => E2.out.symm))
        · intro bf ac wv hfb haf hJ K' hK
          obtain ⟨vs, rfl, ja, hB, j4⟩ := hJ
          replace hK := Lib.hid hK
          rw [HG.out] at j4
          replace j4 := Lib.hid (And.intro ja j4)
          replace hB := Lib.hid hB
          clear ja haf
          rw [HLIT.out]
          go_simp
          exact hK.out _ _ (NS.next (wv := wv) (vs := vs) 3 (by omega) (fun q h => absurd h (by simp)) (x := .slice la L.length lc) (by rw [HLIT.out]; rfl) (by rw [HG.out]; exact j4.out) hB.out (by rw [HG.out]; exact fun _ _ h => h) (by rw [HG.out]; exact fun _ => E3.out.symm))
        · intro bf ac wv hfb haf hJ K' hK
          obtain ⟨vs, rfl, ja, hB, j4⟩ := hJ
          replace hK := Lib.hid hK
          simp [Region.binds] at haf
          rw [HG.out] at j4
          have e3 := ((j4 3 (by simp [haf])) (by decide)).trans E3.out
          replace j4 := Lib.hid (And.intro ja j4)
          replace hB := Lib.hid hB
          clear ja haf
          rw [HLIT.out]
          go_simp
          exact hK.out _ _ (NS.next (wv := wv) (vs := vs) 4 (by omega) (fun q h => absurd h (by simp)) (x := .int .i64 (L.length : Int)) (by rw [HLIT.out]; simp only [upv, e3, Nat.reduceBEq, cond_true, cond_false]) (by rw [HG.out]; exact j4.out) hB.out (by rw [HG.out]; exact fun _ _ h => h) (by rw [HG.out]; exact fun _ => E4.out.symm))
        · intro bf ac wv hfb haf hJ K' hK
          obtain ⟨vs, rfl, ja, hB, j4⟩ := hJ
          replace hK := Lib.hid hK
          simp [Region.binds] at haf
          rw [HG.out] at j4
          have e2 := ((j4 2 (by simp [haf])) (by decide)).trans E2.out
          have e4 := ((j4 4 (by simp [haf])) (by decide)).trans E4.out
          have hd : bf 10 = false := by
            cases h : bf 10
            · rfl
            · exact absurd ((ja 10 5 rfl h).symm.trans hfb) (by simp)
          have hM := Lib.hid (hB.1 hd)
          replace j4 := Lib.hid (And.intro ja j4)
          replace hB := Lib.hid hB
          clear ja haf
          have hkm := HKM.out
          have hkt := HKT.out
          obtain ⟨g3, g4, g5⟩ := HG3.out
          have y1 := HY1.out.1
          have y2 := HY1.out.2
          have hn1 := HN8.out.1
          rw [HLIT.out]
          go_simp
          exact hK.out _ _ (NS.next (wv := wv) (vs := vs) 5 (by omega) (fun q h => absurd h (by simp)) (x := .int .i64 (k : Int)) (by rw [HLIT.out]; simp only [upv, e2, e4, Nat.reduceBEq, cond_true, cond_false]) (by rw [HG.out]; exact j4.out) hB.out (by rw [HG.out]; exact fun _ _ h => h) (by rw [HG.out]; exact fun _ => E5.out.symm))
        · intro bf ac wv hfb haf hJ K' hK
          obtain ⟨vs, rfl, ja, hB, j4⟩ := hJ
          replace hK := Lib.hid hK
          simp [Region.binds] at haf
          rw [HG.out] at j4
          have e0 := ((j4 0 (by simp [haf])) (by decide)).trans E0.out
          have e1 := ((j4 1 (by simp [haf])) (by decide)).trans E1.out
          have e5 := ((j4 5 (by simp [haf])) (by decide)).trans E5.out
          have hd : bf 10 = false := by
            cases h : bf 10
            · rfl
            · exact absurd ((ja 10 6 rfl h).symm.trans hfb) (by simp)
          have hM := Lib.hid (hB.1 hd)
          replace j4 := Lib.hid (And.intro ja j4)
          replace hB := Lib.hid hB
          clear ja haf
          rw [HLIT.out]
          go_simp
          go_at_call 27
          refine (HEC.out _ (ods_of_row rfl (row_step HT.out.row hM.out))).mono ?_
          rintro e w4 ⟨rfl, b4⟩
          exact hK.out _ _ (NS.next (wv := wv) (vs := vs) 6 (by omega) (fun q h => absurd h (by simp)) (x := .tuple #[.agg #[.int .i64 v2, .int .i64 (D2 : Int), .int .i64 c], .bool ok2]) (by rw [HLIT.out]; simp only [upv, e0, e1, e5, Nat.reduceBEq, cond_true, cond_false]) (by rw [HG.out]; exact j4.out) ⟨fun _ => keep2 b4 hM.out, fun e => absurd (e.symm.trans hd) (by simp)⟩ (by rw [HG.out]; exact fun _ _ h => h) (by rw [HG.out]; exact fun _ => E6.out.symm))
        · intro bf ac wv hfb haf hJ K' hK
          obtain ⟨vs, rfl, ja, hB, j4⟩ := hJ
          replace hK := Lib.hid hK
          simp [Region.binds] at haf
          rw [HG.out] at j4
          have e6 := ((j4 6 (by simp [haf])) (by decide)).trans E6.out
          replace j4 := Lib.hid (And.intro ja j4)
          replace hB := Lib.hid hB
          clear ja haf
          rw [HLIT.out]
          go_simp
          exact hK.out _ _ (NS.next (wv := wv) (vs := vs) 7 (by omega) (fun q h => absurd h (by simp)) (x := .tuple #[.agg #[.int .i64 v2, .int .i64 (D2 : Int), .int .i64 c], .bool ok2]) (by rw [HLIT.out]; simp only [upv, e6, Nat.reduceBEq, cond_true, cond_false]) (by rw [HG.out]; exact j4.out) hB.out (by rw [HG.out]; exact fun _ _ h => h) (by rw [HG.out]; exact fun _ => E7.out.symm))
        · intro bf ac wv hfb haf hJ K' hK
          obtain ⟨vs, rfl, ja, hB, j4⟩ := hJ
          replace hK := Lib.hid hK
          simp [Region.binds] at haf
          rw [HG.out] at j4
          have e7 := ((j4 7 (by simp [haf])) (by decide)).trans E7.out
          replace j4 := Lib.hid (And.intro ja j4)
          replace hB := Lib.hid hB
          clear ja haf
          rw [HLIT.out]
          go_simp
          exact hK.out _ _ (NS.next (wv := wv) (vs := vs) 8 (by omega) (fun q h => absurd h (by simp)) (x := .agg #[.int .i64 v2, .int .i64 (D2 : Int), .int .i64 c]) (by rw [HLIT.out]; simp only [upv, e7, Nat.reduceBEq, cond_true, cond_false]) (by rw [HG.out]; exact j4.out) hB.out (by rw [HG.out]; exact fun _ _ h => h) (by rw [HG.out]; exact fun _ => E8.out.symm))
        · intro bf ac wv hfb haf hJ K' hK
          obtain ⟨vs, rfl, ja, hB, j4⟩ := hJ
          replace hK := Lib.hid hK
          simp [Region.binds] at haf
          rw [HG.out] at j4
          have e7 := ((j4 7 (by simp [haf])) (by decide)).trans E7.out
          replace j4 := Lib.hid (And.intro ja j4)
          replace hB := Lib.hid hB
          clear ja haf
          rw [HLIT.out]
          go_simp
          exact hK.out _ _ (NS.next (wv := wv) (vs := vs) 9 (by omega) (fun q h => absurd h (by simp)) (x := .bool ok2) (by rw [HLIT.out]; simp only [upv, e7, Nat.reduceBEq, cond_true, cond_false]) (by rw [HG.out]; exact j4.out) hB.out (by rw [HG.out]; exact fun _ _ h => h) (by rw [HG.out]; exact fun _ => E9.out.symm))
        · intro bf ac wv hfb haf hJ K' hK
          obtain ⟨vs, rfl, ja, hB, j4⟩ := hJ
          replace hK := Lib.hid hK
          simp [Region.binds] at haf
          rw [HG.out] at j4
          have e8 := ((j4 8 (by simp [haf])) (by decide)).trans E8.out
          rw [hfb] at j4 hB
          have HA := Lib.hid (show ∀ q, (fun p q => (p == 10 && q == 0) || (p == 10 && q == 1) || (p == 10 && q == 2) || (p == 10 && q == 3) || (p == 10 && q == 4) || (p == 10 && q == 5) || (p == 10 && q == 6) || (p == 10 && q == 7) || (p == 10 && q == 8)) 10 q = true → bf q = true from fun q hi => by
            obtain rfl | rfl | rfl | rfl | rfl | rfl | rfl | rfl | rfl : q = 0 ∨ q = 1 ∨ q = 2 ∨ q = 3 ∨ q = 4 ∨ q = 5 ∨ q = 6 ∨ q = 7 ∨ q = 8 := by simpa [or_assoc] using hi
            all_goals simp [haf])
          have hM := Lib.hid (hB.1 rfl)
          replace j4 := Lib.hid j4
          have HE := Lib.hid (And.intro ja HA.out)
          clear ja haf hB HA
          have hC := HT.out.wb.step hM.out
          replace hC := Lib.hid hC
          have x0 := hC.out.c 0 rfl
          have y0 := hC.out.f 0 (by simp)
          have x1 := hC.out.c 1 rfl
          have y1 := hC.out.f 1 (by simp)
          have x2 := hC.out.c 2 rfl
          have y2 := hC.out.f 2 (by simp)
          have xz := hC.out.2.2
          rw [HLIT.out]
          go_simp
          have hcs := Cs.set (Cs.set (Cs.set hC.out 0 (by simp) (.int .i64 v2) rfl) 1 (by simp) (.int .i64 (D2 : Int)) rfl) 2 (by simp) (.int .i64 c) (vs' := #[.int .i64 v2, .int .i64 (D2 : Int), .int .i64 c]) rfl
          have hcg := (((Chg.of (k := kw) (Below.refl _ wv)).set 0 (.int .i64 v2)).set 1 (.int .i64 (D2 : Int))).set 2 (.int .i64 c)
          have hT := (HT.out.step hM.out).setW hcg hcs
          have hW := (keep2 hM.out HW.out).trans (hcg.below HLO.out.2.1 (keep2 hM.out HW.out).size)
          exact hK.out _ _ (NS.put (vs := vs) (w' := (((wv.setCell ⟨kw, 0, none⟩ (.int .i64 v2)).setCell ⟨kw, 1, none⟩ (.int .i64 (D2 : Int))).setCell ⟨kw, 2, none⟩ (.int .i64 c))) (by rw [HLIT.out]; simp only [e8]) HE.out ⟨fun e => (by cases e), fun _ => ⟨hT, hW⟩⟩ (fun j hj hb => by
            have q := j4.out j hb
            rw [HG.out]
            exact q) (fun v => by rw [HG.out]; exact fun h10 => absurd rfl h10))
      · intro bf ac wv hall hJ
        obtain ⟨vs, rfl, -, hB, j4⟩ := hJ
        rw [HG.out] at j4
        rw [hall 10 (by decide)] at hB j4
        have hM := Lib.hid (hB.2 rfl)
        clear hB
        obtain ⟨hT, hW9⟩ := hM.out
        have HT9 := Lib.hid hT
        have HB9 := Lib.hid hW9
        clear hT hW9 hM j4 hall
        rw [HLIT.out]
        dsimp only
        clear HLIT HG
        generalize vs = us8
        obtain ⟨W7, hW7⟩ : ∃ z9, wv = z9 := ⟨_, rfl⟩
        rw [hW7] at HT9 HB9 ⊢
        clear hW7
        have HCAN := Lib.hid (HEX.out.tr.can)
        have HLV := Lib.hid HEX.out.lens.2
        obtain ⟨ua, uc, fa, fc, hx9, hr9, hf8, hf9⟩ := HT9.out.bb
        have H303 := Lib.hid (hx9)
        have H304 := Lib.hid (hr9)
        clear hx9 hr9 hf8 hf9
        have xX0 := (cs_of_box H303.out).c 0 rfl
        have xX1 := (cs_of_box H303.out).c 1 rfl
        have xXz := (cs_of_box H303.out).2.2
        have xW0 := HT9.out.wb.c 0 rfl
        have xWz := HT9.out.wb.2.2
        go_wp2_with fail
        refine (can_r _ _ V v2 true HCAN.out _ H304.out.1 HLV.out).mono ?_
        rintro e u31 ⟨rfl, b31⟩
        clear xX0 xX1 xXz xW0 xWz
        have H305 := Lib.hid (HT9.out.step b31)
        clear HT9
        have H306 := Lib.hid (H303.out.step b31)
        clear H303
        have H307 := Lib.hid (H304.out.step b31)
        clear H304
        have H308 := Lib.hid (keep2 b31 HB9.out)
        clear HB9
        clear b31
        have t9 : i ≤ 1000 := by have h1 := HIL.out; have h2 := H9.out; omega
        go_wp2
        go_roundw
        case rel => exact ⟨i + 1, la, lc, L, v2, D2, c, z, V, M, HIL.out, (by first | rfl | go_num), rfl, HEX, H305, H308⟩
        case measure => exact meas_any HIL.out H9.out
    · skip
      obtain ⟨ua, uc, fa, fc, hx9, hr9, hf8, hf9⟩ := HT.out.bb
      have H301 := Lib.hid (hx9)
      have H302 := Lib.hid (hr9)
      clear hx9 hr9 hf8 hf9
      by_cases hlp : 0 < L.length
      rotate_left
      · skip
        have g1 : decide ((0 : Int) < (L.length : Int)) = false := decide_eq_false (by omega)
        have g2 : ¬ (0 : Int) < (L.length : Int) := by omega
        have g3 : ¬ 0 < L.length := by omega
        have HCAN := Lib.hid (HTR.out.tr.can)
        have HLV := Lib.hid HTR.out.lens.2
        have xX0 := (cs_of_box H301.out).c 0 rfl
        have xX1 := (cs_of_box H301.out).c 1 rfl
        have xXz := (cs_of_box H301.out).2.2
        have xW0 := HT.out.wb.c 0 rfl
        have xWz := HT.out.wb.2.2
        go_wp2_with fail
        refine (can_r _ _ V v true HCAN.out _ H302.out.1 HLV.out).mono ?_
        rintro e u31 ⟨rfl, b31⟩
        clear xX0 xX1 xXz xW0 xWz
        have H303 := Lib.hid (HT.out.step b31)
        clear HT
        have H304 := Lib.hid (H301.out.step b31)
        clear H301
        have H305 := Lib.hid (H302.out.step b31)
        clear H302
        have H306 := Lib.hid (keep2 b31 HW.out)
        clear HW
        clear b31
        have t9 : i ≤ 1000 := by have h1 := HIL.out; have h2 := H9.out; omega
        go_wp2
        go_roundw
        case rel => exact ⟨i + 1, la, lc, L, v, D, c, z, V, M, HIL.out, (by first | rfl | go_num), rfl, HTR, H303, H306⟩
        case measure => exact meas_any HIL.out H9.out
      obtain ⟨k, hk, hkl⟩ := mod_nat HN8.out.1 hlp
      have HKL := Lib.hid hkl
      have HKM := Lib.hid hk
      have HKT := Lib.hid (show (yv / 8).tmod (L.length : Int) = k by rw [Int.tmod_eq_emod_of_nonneg HN8.out.1]; exact hk)
      have g1 : decide ((0 : Int) < (L.length : Int)) = true := decide_eq_true (by omega)
      have g2 : (0 : Int) < (L.length : Int) := by omega
      have g3 : ¬ (L.length : Int) = 0 := by omega
      have g4 : ¬ L = [] := by intro e; rw [e] at hlp; simp at hlp
      have g5 : ((L.length : Int) == 0) = false := by simp; exact g4
      have HEX := Lib.hid (HTR.out.exec hkl)
      clear hkl
      obtain ⟨ok2, hok2⟩ : ∃ z9, exB L D c k = z9 := ⟨_, rfl⟩
      rw [hok2] at HEX
      obtain ⟨v2, hv2⟩ : ∃ z9, exV ok2 L k v = z9 := ⟨_, rfl⟩
      obtain ⟨D2, hD2⟩ : ∃ z9, exD ok2 D k = z9 := ⟨_, rfl⟩
      rw [hv2, hD2] at HEX
      have HEC := Lib.hid (fun (w9 : World) (q9 : OdsAt w9 (.slice la L.length lc) L) => exec_any (.slice la L.length lc) L v D c k HTR.out.bit HTR.out.tr.len HKL.out HTR.out.num w9 q9)
      rw [hok2, hv2, hD2] at HEC
      clear hok2 hv2 hD2
      have HG3 := Lib.hid (And.intro g3 (And.intro g4 g5))
      clear hk
      go_upto_region 25 with fail
      clear g1 g2 g3 g4 g5 hlp hr8 y1 y2 t1 y0 yz hlt hi
      obtain ⟨W5, hW5⟩ : ∃ z9, wr = z9 := ⟨_, rfl⟩
      rw [hW5] at HT H301 H302 HW ⊢
      clear hW5
      obtain ⟨lit, hlit⟩ : ∃ lit : (Nat → Value) → Act, lit = fun vs => { tmps := List.toArray (Value.int IntKind.u8 st :: Value.slice (some { block := bk, off := ok }) l.length sc :: undef :: undef :: u4 :: Value.bool true :: Value.pointer (some { block := kb, off := 0 }) :: Value.pointer (some { block := kw, off := 0 }) :: Value.slice la L.length lc :: Value.pointer (some { block := kl, off := 0 }) :: Value.int IntKind.i64 (i : Int) :: Value.int IntKind.i64 (yv / 8) :: u12 :: u13 :: u14 :: u15 :: u16 :: u17 :: u18 :: u19 :: Value.bool true :: Value.slice (some { block := bk, off := ok }) l.length sc :: Value.int IntKind.i64 (l.length : Int) :: Value.bool (decide ((40 : Int) < (l.length : Int))) :: undef :: Value.int IntKind.u8 st :: Value.int IntKind.i64 st :: Value.int IntKind.i64 (st % 4) :: Value.agg #[Value.slice ua0 V0.length uc0, Value.slice fa0 M0.length fc0] :: Value.int IntKind.u8 st :: Value.int IntKind.i64 st :: Value.int IntKind.i64 (st % 4) :: Value.agg #[Value.int IntKind.i64 (st % 4), Value.int IntKind.i64 0, Value.int IntKind.i64 (-1)] :: Value.agg #[Value.int IntKind.i64 (-1), Value.int IntKind.i64 0, Value.int IntKind.i64 0, Value.int IntKind.i64 0] :: Value.int IntKind.i64 (i : Int) :: Value.slice (some { block := bk, off := ok }) l.length sc :: Value.int IntKind.i64 (l.length : Int) :: Value.bool true :: u38 :: u39 :: Value.slice (some { block := bk, off := ok }) l.length sc :: Value.int IntKind.i64 (i : Int) :: Value.pointer (some { block := bk, off := ok + i }) :: Value.int IntKind.u16 yv :: Value.int IntKind.i64 yv :: Value.int IntKind.i64 (yv / 8) :: Value.slice (some { block := bk, off := ok }) l.length sc :: Value.int IntKind.i64 (i : Int) :: Value.pointer (some { block := bk, off := ok + i }) :: Value.int IntKind.u16 yv :: Value.int IntKind.u16 (yv % 8) :: Value.bool false :: Value.bool false :: Value.bool false :: u54 :: u55 :: u56 :: u57 :: u58 :: u59 :: u60 :: u61 :: u62 :: u63 :: u64 :: u65 :: u66 :: u67 :: u68 :: u69 :: u70 :: u71 :: u72 :: u73 :: u74 :: u75 :: Value.bool true :: Value.bool false :: Value.bool true :: u79 :: Value.slice la L.length lc :: Value.int IntKind.i64 (L.length : Int) :: Value.bool true :: vs 7 :: vs 0 :: vs 1 :: vs 2 :: vs 3 :: vs 4 :: vs 5 :: vs 6 :: vs 8 :: vs 9 :: u93 :: u94 :: u95 :: u96 :: u97 :: u98 :: u99 :: u100 :: u101 :: u102 :: u103 :: u104 :: u105 :: u106 :: u107 :: u108 :: u109 :: u110 :: u111 :: u112 :: u113 :: u114 :: u115 :: u116 :: u117 :: u118 :: u119 :: u120 :: u121 :: u122 :: u123 :: u124 :: u125 :: u126 :: u127 :: u128 :: u129 :: u130 :: u131 :: u132 :: u133 :: u134 :: u135 :: u136 :: u137 :: u138 :: u139 :: u140 :: u141 :: u142 :: u143 :: u144 :: u145 :: undef :: []), defers := [] } := ⟨_, rfl⟩
      have HLIT := Lib.hid hlit
      clear hlit
      obtain ⟨val, hval⟩ : ∃ val : List Value, val = [.slice la L.length lc, .agg #[.int .i64 v, .int .i64 (D : Int), .int .i64 c], .int .i64 (yv / 8), .slice la L.length lc, .int .i64 (L.length : Int), .int .i64 (k : Int), .tuple #[.agg #[.int .i64 v2, .int .i64 (D2 : Int), .int .i64 c], .bool ok2], .tuple #[.agg #[.int .i64 v2, .int .i64 (D2 : Int), .int .i64 c], .bool ok2], .agg #[.int .i64 v2, .int .i64 (D2 : Int), .int .i64 c], .bool ok2, undef] := ⟨_, rfl⟩
      have E0 := Lib.hid (show val.getD 0 undef = .slice la L.length lc by rw [hval]; rfl)
      have E1 := Lib.hid (show val.getD 1 undef = .agg #[.int .i64 v, .int .i64 (D : Int), .int .i64 c] by rw [hval]; rfl)
      have E2 := Lib.hid (show val.getD 2 undef = .int .i64 (yv / 8) by rw [hval]; rfl)
      have E3 := Lib.hid (show val.getD 3 undef = .slice la L.length lc by rw [hval]; rfl)
      have E4 := Lib.hid (show val.getD 4 undef = .int .i64 (L.length : Int) by rw [hval]; rfl)
      have E5 := Lib.hid (show val.getD 5 undef = .int .i64 (k : Int) by rw [hval]; rfl)
      have E6 := Lib.hid (show val.getD 6 undef = .tuple #[.agg #[.int .i64 v2, .int .i64 (D2 : Int), .int .i64 c], .bool ok2] by rw [hval]; rfl)
      have E7 := Lib.hid (show val.getD 7 undef = .tuple #[.agg #[.int .i64 v2, .int .i64 (D2 : Int), .int .i64 c], .bool ok2] by rw [hval]; rfl)
      have E8 := Lib.hid (show val.getD 8 undef = .agg #[.int .i64 v2, .int .i64 (D2 : Int), .int .i64 c] by rw [hval]; rfl)
      have E9 := Lib.hid (show val.getD 9 undef = .bool ok2 by rw [hval]; rfl)
      clear hval
      obtain ⟨G, hG0⟩ : ∃ G : Bool → Nat → Value → World → Prop, G = (fun bq iq vq ww => (iq ≠ 10 → vq = val.getD iq undef)) := ⟨_, rfl⟩
      have HG := Lib.hid hG0
      clear hG0
      refine region_inv (NS lit 10 (fun p q => (p == 10 && q == 0) || (p == 10 && q == 1) || (p == 10 && q == 2) || (p == 10 && q == 3) || (p == 10 && q == 4) || (p == 10 && q == 5) || (p == 10 && q == 6) || (p == 10 && q == 7) || (p == 10 && q == 8)) G fun bq wv => (bq = false → Below W5.heap.size W5 wv) ∧ (bq = true → WT base kb kw kl la lc L v2 D2 c z V M wv ∧ Below w.heap.size w wv)) (by kernel_rfl) (by decide +kernel) ?_ ?_ ?_
      · exact NS.start (fun i => ([u84, u85, u86, u87, u88, u89, u90, u83, u91, u92, undef] : List Value).getD i undef) (by rw [HLIT.out]; rfl) ⟨fun _ => below_drew _ _, fun h => (by cases h)⟩
      · refine ⟨?_, ?_, ?_, ?_, ?_, ?_, ?_, ?_, ?_, ?_, ?_, trivial⟩
        · intro bf ac wv hfb haf hJ K' hK
          obtain ⟨vs, rfl, ja, hB, j4⟩ := hJ
          replace hK := Lib.hid hK
          rw [HG.out] at j4
          replace j4 := Lib.hid (And.intro ja j4)
          replace hB := Lib.hid hB
          clear ja haf
          rw [HLIT.out]
          go_simp
          exact hK.out _ _ (NS.next (wv := wv) (vs := vs) 0 (by omega) (fun q h => absurd h (by simp)) (x := .slice la L.length lc) (by rw [HLIT.out]; rfl) (by rw [HG.out]; exact j4.out) hB.out (by rw [HG.out]; exact fun _ _ h => h) (by rw [HG.out]; exact fun _ => E0.out.symm))
        · intro bf ac wv hfb haf hJ K' hK
          obtain ⟨vs, rfl, ja, hB, j4⟩ := hJ
          replace hK := Lib.hid hK
          rw [HG.out] at j4
          have hd : bf 10 = false := by
            cases h : bf 10
            · rfl
            · exact absurd ((ja 10 1 rfl h).symm.trans hfb) (by simp)
          have hM := Lib.hid (hB.1 hd)
          replace j4 := Lib.hid (And.intro ja j4)
          replace hB := Lib.hid hB
          clear ja haf
          have xx := HT.out.wb.step hM.out
          have xx0 := xx.c 0 rfl
          have xx1 := xx.c 1 rfl
          have xx2 := xx.c 2 rfl
          have xxz := xx.2.2
          clear xx
          rw [HLIT.out]
          go_simp
          exact hK.out _ _ (NS.next (wv := wv) (vs := vs) 1 (by omega) (fun q h => absurd h (by simp)) (x := .agg #[.int .i64 v, .int .i64 (D : Int), .int .i64 c]) (by rw [HLIT.out]; rfl) (by rw [HG.out]; exact j4.out) hB.out (by rw [HG.out]; exact fun _ _ h => h) (by rw [HG.out]; exact fun _ => E1.out.symm))
        · intro bf ac wv hfb haf hJ K' hK
          obtain ⟨vs, rfl, ja, hB, j4⟩ := hJ
          replace hK := Lib.hid hK
          rw [HG.out] at j4
          replace j4 := Lib.hid (And.intro ja j4)
          replace hB := Lib.hid hB
          clear ja haf
          rw [HLIT.out]
          go_simp
          exact hK.out _ _ (NS.next (wv := wv) (vs := vs) 2 (by omega) (fun q h => absurd h (by simp)) (x := .int .i64 (yv / 8)) (by rw [HLIT.out]; rfl) (by rw [HG.out]; exact j4.out) hB.out (by rw [HG.out]; exact fun _ _ h => h) (by rw [HG.out]; exact fun _ => E2.out.symm))
        · intro bf ac wv hfb haf hJ K' hK
          obtain ⟨vs, rfl, ja, hB, j4⟩ := hJ
          replace hK := Lib.hid hK
          rw [HG.out] at j4
          replace j4 := Lib.hid (And.intro ja j4)
          replace hB := Lib.hid hB
          clear ja haf
          rw [HLIT.out]
          go_simp
          exact hK.out _ _ (NS.next (wv := wv) (vs := vs) 3 (by omega) (fun q h => absurd h (by simp)) (x := .slice la L.length lc) (by rw [HLIT.out]; rfl) (by rw [HG.out]; exact j4.out) hB.out (by rw [HG.out]; exact fun _ _ h => h) (by rw [HG.out]; exact fun _ => E3.out.symm))
        · intro bf ac wv hfb haf hJ K' hK
          obtain ⟨vs, rfl, ja, hB, j4⟩ := hJ
          replace hK := Lib.hid hK
          simp [Region.binds] at haf
          rw [HG.out] at j4
          have e3 := ((j4 3 (by simp [haf])) (by decide)).trans E3.out
          replace j4 := Lib.hid (And.intro ja j4)
          replace hB := Lib.hid hB
          clear ja haf
          rw [HLIT.out]
          go_simp
          exact hK.out _ _ (NS.next (wv := wv) (vs := vs) 4 (by omega) (fun q h => absurd h (by simp)) (x := .int .i64 (L.length : Int)) (by rw [HLIT.out]; simp only [upv, e3, Nat.reduceBEq, cond_true, cond_false]) (by rw [HG.out]; exact j4.out) hB.out (by rw [HG.out]; exact fun _ _ h => h) (by rw [HG.out]; exact fun _ => E4.out.symm))
        · intro bf ac wv hfb haf hJ K' hK
          obtain ⟨vs, rfl, ja, hB, j4⟩ := hJ
          replace hK := Lib.hid hK
          simp [Region.binds] at haf
          rw [HG.out] at j4
          have e2 := ((j4 2 (by simp [haf])) (by decide)).trans E2.out
          have e4 := ((j4 4 (by simp [haf])) (by decide)).trans E4.out
          have hd : bf 10 = false := by
            cases h : bf 10
            · rfl
            · exact absurd ((ja 10 5 rfl h).symm.trans hfb) (by simp)
          have hM := Lib.hid (hB.1 hd)
          replace j4 := Lib.hid (And.intro ja j4)
          replace hB := Lib.hid hB
          clear ja haf
          have hkm := HKM.out
          have hkt := HKT.out
          obtain ⟨g3, g4, g5⟩ := HG3.out
          have y1 := HY1.out.1
          have y2 := HY1.out.2
          have hn1 := HN8.out.1
          rw [HLIT.out]
          go_simp
          exact hK.out _ _ (NS.next (wv := wv) (vs := vs) 5 (by omega) (fun q h => absurd h (by simp)) (x := .int .i64 (k : Int)) (by rw [HLIT.out]; simp only [upv, e2, e4, Nat.reduceBEq, cond_true, cond_false]) (by rw [HG.out]; exact j4.out) hB.out (by rw [HG.out]; exact fun _ _ h => h) (by rw [HG.out]; exact fun _ => E5.out.symm))
        · intro bf ac wv hfb haf hJ K' hK
          obtain ⟨vs, rfl, ja, hB, j4⟩ := hJ
          replace hK := Lib.hid hK
          simp [Region.binds] at haf
          rw [HG.out] at j4
          have e0 := ((j4 0 (by simp [haf])) (by decide)).trans E0.out
          have e1 := ((j4 1 (by simp [haf])) (by decide)).trans E1.out
          have e5 := ((j4 5 (by simp [haf])) (by decide)).trans E5.out
          have hd : bf 10 = false := by
            cases h : bf 10
            · rfl
            · exact absurd ((ja 10 6 rfl h).symm.trans hfb) (by simp)
          have hM := Lib.hid (hB.1 hd)
          replace j4 := Lib.hid (And.intro ja j4)
          replace hB := Lib.hid hB
          clear ja haf
          rw [HLIT.out]
          go_simp
          go_at_call 27
          refine (HEC.out _ (ods_of_row rfl (row_step HT.out.row hM.out))).mono ?_
          rintro e w4 ⟨rfl, b4⟩
          exact hK.out _ _ (NS.next (wv := wv) (vs := vs) 6 (by omega) (fun q h => absurd h (by simp)) (x := .tuple #[.agg #[.int .i64 v2, .int .i64 (D2 : Int), .int .i64 c], .bool ok2]) (by rw [HLIT.out]; simp only [upv, e0, e1, e5, Nat.reduceBEq, cond_true, cond_false]) (by rw [HG.out]; exact j4.out) ⟨fun _ => keep2 b4 hM.out, fun e => absurd (e.symm.trans hd) (by simp)⟩ (by rw [HG.out]; exact fun _ _ h => h) (by rw [HG.out]; exact fun _ => E6.out.symm))
        · intro bf ac wv hfb haf hJ K' hK
          obtain ⟨vs, rfl, ja, hB, j4⟩ := hJ
          replace hK := Lib.hid hK
          simp [Region.binds] at haf
          rw [HG.out] at j4
          have e6 := ((j4 6 (by simp [haf])) (by decide)).trans E6.out
          replace j4 := Lib.hid (And.intro ja j4)
          replace hB := Lib.hid hB
          clear ja haf
          rw [HLIT.out]
          go_simp
          exact hK.out _ _ (NS.next (wv := wv) (vs := vs) 7 (by omega) (fun q h => absurd h (by simp)) (x := .tuple #[.agg #[.int .i64 v2, .int .i64 (D2 : Int), .int .i64 c], .bool ok2]) (by rw [HLIT.out]; simp only [upv, e6, Nat.reduceBEq, cond_true, cond_false]) (by rw [HG.out]; exact j4.out) hB.out (by rw [HG.out]; exact fun _ _ h => h) (by rw [HG.out]; exact fun _ => E7.out.symm))
        · intro bf ac wv hfb haf hJ K' hK
          obtain ⟨vs, rfl, ja, hB, j4⟩ := hJ
          replace hK := Lib.hid hK
          simp [Region.binds] at haf
          rw [HG.out] at j4
          have e7 := ((j4 7 (by simp [haf])) (by decide)).trans E7.out
          replace j4 := Lib.hid (And.intro ja j4)
          replace hB := Lib.hid hB
          clear ja haf
          rw [HLIT.out]
          go_simp
          exact hK.out _ _ (NS.next (wv := wv) (vs := vs) 8 (by omega) (fun q h => absurd h (by simp)) (x := .agg #[.int .i64 v2, .int .i64 (D2 : Int), .int .i64 c]) (by rw [HLIT.out]; simp only [upv, e7, Nat.reduceBEq, cond_true, cond_false]) (by rw [HG.out]; exact j4.out) hB.out (by rw [HG.out]; exact fun _ _ h => h) (by rw [HG.out]; exact fun _ => E8.out.symm))
        · intro bf ac wv hfb haf hJ K' hK
          obtain ⟨vs, rfl, ja, hB, j4⟩ := hJ
          replace hK := Lib.hid hK
          simp [Region.binds] at haf
          rw [HG.out] at j4
          have e7 := ((j4 7 (by simp [haf])) (by decide)).trans E7.out
          replace j4 := Lib.hid (And.intro ja j4)
          replace hB := Lib.hid hB
          clear ja haf
          rw [HLIT.out]
          go_simp
          exact hK.out _ _ (NS.next (wv := wv) (vs := vs) 9 (by omega) (fun q h => absurd h (by simp)) (x := .bool ok2) (by rw [HLIT.out]; simp only [upv, e7, Nat.reduceBEq, cond_true, cond_false]) (by rw [HG.out]; exact j4.out) hB.out (by rw [HG.out]; exact fun _ _ h => h) (by rw [HG.out]; exact fun _ => E9.out.symm))
        · intro bf ac wv hfb haf hJ K' hK
          obtain ⟨vs, rfl, ja, hB, j4⟩ := hJ
          replace hK := Lib.hid hK
          simp [Region.binds] at haf
          rw [HG.out] at j4
          have e8 := ((j4 8 (by simp [haf])) (by decide)).trans E8.out
          rw [hfb] at j4 hB
          have HA := Lib.hid (show ∀ q, (fun p q => (p == 10 && q == 0) || (p == 10 && q == 1) || (p == 10 && q == 2) || (p == 10 && q == 3) || (p == 10 && q == 4) || (p == 10 && q == 5) || (p == 10 && q == 6) || (p == 10 && q == 7) || (p == 10 && q == 8)) 10 q = true → bf q = true from fun q hi => by
            obtain rfl | rfl | rfl | rfl | rfl | rfl | rfl | rfl | rfl : q = 0 ∨ q = 1 ∨ q = 2 ∨ q = 3 ∨ q = 4 ∨ q = 5 ∨ q = 6 ∨ q = 7 ∨ q = 8 := by simpa [or_assoc] using hi
            all_goals simp [haf])
          have hM := Lib.hid (hB.1 rfl)
          replace j4 := Lib.hid j4
          have HE := Lib.hid (And.intro ja HA.out)
          clear ja haf hB HA
          have hC := HT.out.wb.step hM.out
          replace hC := Lib.hid hC
          have x0 := hC.out.c 0 rfl
          have y0 := hC.out.f 0 (by simp)
          have x1 := hC.out.c 1 rfl
          have y1 := hC.out.f 1 (by simp)
          have x2 := hC.out.c 2 rfl
          have y2 := hC.out.f 2 (by simp)
          have xz := hC.out.2.2
          rw [HLIT.out]
          go_simp
          have hcs := Cs.set (Cs.set (Cs.set hC.out 0 (by simp) (.int .i64 v2) rfl) 1 (by simp) (.int .i64 (D2 : Int)) rfl) 2 (by simp) (.int .i64 c) (vs' := #[.int .i64 v2, .int .i64 (D2 : Int), .int .i64 c]) rfl
          have hcg := (((Chg.of (k := kw) (Below.refl _ wv)).set 0 (.int .i64 v2)).set 1 (.int .i64 (D2 : Int))).set 2 (.int .i64 c)
          have hT := (HT.out.step hM.out).setW hcg hcs
          have hW := (keep2 hM.out HW.out).trans (hcg.below HLO.out.2.1 (keep2 hM.out HW.out).size)
          exact hK.out _ _ (NS.put (vs := vs) (w' := (((wv.setCell ⟨kw, 0, none⟩ (.int .i64 v2)).setCell ⟨kw, 1, none⟩ (.int .i64 (D2 : Int))).setCell ⟨kw, 2, none⟩ (.int .i64 c))) (by rw [HLIT.out]; simp only [e8]) HE.out ⟨fun e => (by cases e), fun _ => ⟨hT, hW⟩⟩ (fun j hj hb => by
            have q := j4.out j hb
            rw [HG.out]
            exact q) (fun v => by rw [HG.out]; exact fun h10 => absurd rfl h10))
      · intro bf ac wv hall hJ
        obtain ⟨vs, rfl, -, hB, j4⟩ := hJ
        rw [HG.out] at j4
        rw [hall 10 (by decide)] at hB j4
        have hM := Lib.hid (hB.2 rfl)
        clear hB
        obtain ⟨hT, hW9⟩ := hM.out
        have HT9 := Lib.hid hT
        have HB9 := Lib.hid hW9
        clear hT hW9 hM j4 hall
        rw [HLIT.out]
        dsimp only
        clear HLIT HG
        generalize vs = us8
        obtain ⟨W7, hW7⟩ : ∃ z9, wv = z9 := ⟨_, rfl⟩
        rw [hW7] at HT9 HB9 ⊢
        clear hW7
        have HCAN := Lib.hid (HEX.out.tr.can)
        have HLV := Lib.hid HEX.out.lens.2
        obtain ⟨ua, uc, fa, fc, hx9, hr9, hf8, hf9⟩ := HT9.out.bb
        have H303 := Lib.hid (hx9)
        have H304 := Lib.hid (hr9)
        clear hx9 hr9 hf8 hf9
        have xX0 := (cs_of_box H303.out).c 0 rfl
        have xX1 := (cs_of_box H303.out).c 1 rfl
        have xXz := (cs_of_box H303.out).2.2
        have xW0 := HT9.out.wb.c 0 rfl
        have xWz := HT9.out.wb.2.2
        go_wp2_with fail
        refine (can_r _ _ V v2 true HCAN.out _ H304.out.1 HLV.out).mono ?_
        rintro e u31 ⟨rfl, b31⟩
        clear xX0 xX1 xXz xW0 xWz
        have H305 := Lib.hid (HT9.out.step b31)
        clear HT9
        have H306 := Lib.hid (H303.out.step b31)
        clear H303
        have H307 := Lib.hid (H304.out.step b31)
        clear H304
        have H308 := Lib.hid (keep2 b31 HB9.out)
        clear HB9
        clear b31
        have t9 : i ≤ 1000 := by have h1 := HIL.out; have h2 := H9.out; omega
        go_wp2
        go_roundw
        case rel => exact ⟨i + 1, la, lc, L, v2, D2, c, z, V, M, HIL.out, (by first | rfl | go_num), rfl, HEX, H305, H308⟩
        case measure => exact meas_any HIL.out H9.out
    · skip
      obtain ⟨ua, uc, fa, fc, hx9, hr9, hf8, hf9⟩ := HT.out.bb
      have H301 := Lib.hid (hx9)
      have H302 := Lib.hid (hr9)
      clear hx9 hr9 hf8 hf9
      by_cases hlp : 0 < L.length
      rotate_left
      · skip
        have g1 : decide ((0 : Int) < (L.length : Int)) = false := decide_eq_false (by omega)
        have g2 : ¬ (0 : Int) < (L.length : Int) := by omega
        have g3 : ¬ 0 < L.length := by omega
        have HCAN := Lib.hid (HTR.out.tr.can)
        have HLV := Lib.hid HTR.out.lens.2
        have xX0 := (cs_of_box H301.out).c 0 rfl
        have xX1 := (cs_of_box H301.out).c 1 rfl
        have xXz := (cs_of_box H301.out).2.2
        have xW0 := HT.out.wb.c 0 rfl
        have xWz := HT.out.wb.2.2
        go_wp2_with fail
        refine (can_r _ _ V v true HCAN.out _ H302.out.1 HLV.out).mono ?_
        rintro e u31 ⟨rfl, b31⟩
        clear xX0 xX1 xXz xW0 xWz
        have H303 := Lib.hid (HT.out.step b31)
        clear HT
        have H304 := Lib.hid (H301.out.step b31)
        clear H301
        have H305 := Lib.hid (H302.out.step b31)
        clear H302
        have H306 := Lib.hid (keep2 b31 HW.out)
        clear HW
        clear b31
        have t9 : i ≤ 1000 := by have h1 := HIL.out; have h2 := H9.out; omega
        go_wp2
        go_roundw
        case rel => exact ⟨i + 1, la, lc, L, v, D, c, z, V, M, HIL.out, (by first | rfl | go_num), rfl, HTR, H303, H306⟩
        case measure => exact meas_any HIL.out H9.out
      obtain ⟨k, hk, hkl⟩ := mod_nat HN8.out.1 hlp
      have HKL := Lib.hid hkl
      have HKM := Lib.hid hk
      have HKT := Lib.hid (show (yv / 8).tmod (L.length : Int) = k by rw [Int.tmod_eq_emod_of_nonneg HN8.out.1]; exact hk)
      have g1 : decide ((0 : Int) < (L.length : Int)) = true := decide_eq_true (by omega)
      have g2 : (0 : Int) < (L.length : Int) := by omega
      have g3 : ¬ (L.length : Int) = 0 := by omega
      have g4 : ¬ L = [] := by intro e; rw [e] at hlp; simp at hlp
      have g5 : ((L.length : Int) == 0) = false := by simp; exact g4
      have HEX := Lib.hid (HTR.out.exec hkl)
      clear hkl
      obtain ⟨ok2, hok2⟩ : ∃ z9, exB L D c k = z9 := ⟨_, rfl⟩
      rw [hok2] at HEX
      obtain ⟨v2, hv2⟩ : ∃ z9, exV ok2 L k v = z9 := ⟨_, rfl⟩
      obtain ⟨D2, hD2⟩ : ∃ z9, exD ok2 D k = z9 := ⟨_, rfl⟩
      rw [hv2, hD2] at HEX
      have HEC := Lib.hid (fun (w9 : World) (q9 : OdsAt w9 (.slice la L.length lc) L) => exec_any (.slice la L.length lc) L v D c k HTR.out.bit HTR.out.tr.len HKL.out HTR.out.num w9 q9)
      rw [hok2, hv2, hD2] at HEC
      clear hok2 hv2 hD2
      have HG3 := Lib.hid (And.intro g3 (And.intro g4 g5))
      clear hk
      go_upto_region 25 with fail
      clear g1 g2 g3 g4 g5 hlp hr8 y1 y2 t1 y0 yz hlt hi
      obtain ⟨W5, hW5⟩ : ∃ z9, wr = z9 := ⟨_, rfl⟩
      rw [hW5] at HT H301 H302 HW ⊢
      clear hW5
      obtain ⟨lit, hlit⟩ : ∃ lit : (Nat → Value) → Act, lit = fun vs => { tmps := List.toArray (Value.int IntKind.u8 st :: Value.slice (some { block := bk, off := ok }) l.length sc :: undef :: undef :: u4 :: Value.bool true :: Value.pointer (some { block := kb, off := 0 }) :: Value.pointer (some { block := kw, off := 0 }) :: Value.slice la L.length lc :: Value.pointer (some { block := kl, off := 0 }) :: Value.int IntKind.i64 (i : Int) :: Value.int IntKind.i64 (yv / 8) :: u12 :: u13 :: u14 :: u15 :: u16 :: u17 :: u18 :: u19 :: Value.bool true :: Value.slice (some { block := bk, off := ok }) l.length sc :: Value.int IntKind.i64 (l.length : Int) :: Value.bool (decide ((40 : Int) < (l.length : Int))) :: undef :: Value.int IntKind.u8 st :: Value.int IntKind.i64 st :: Value.int IntKind.i64 (st % 4) :: Value.agg #[Value.slice ua0 V0.length uc0, Value.slice fa0 M0.length fc0] :: Value.int IntKind.u8 st :: Value.int IntKind.i64 st :: Value.int IntKind.i64 (st % 4) :: Value.agg #[Value.int IntKind.i64 (st % 4), Value.int IntKind.i64 0, Value.int IntKind.i64 (-1)] :: Value.agg #[Value.int IntKind.i64 (-1), Value.int IntKind.i64 0, Value.int IntKind.i64 0, Value.int IntKind.i64 0] :: Value.int IntKind.i64 (i : Int) :: Value.slice (some { block := bk, off := ok }) l.length sc :: Value.int IntKind.i64 (l.length : Int) :: Value.bool true :: u38 :: u39 :: Value.slice (some { block := bk, off := ok }) l.length sc :: Value.int IntKind.i64 (i : Int) :: Value.pointer (some { block := bk, off := ok + i }) :: Value.int IntKind.u16 yv :: Value.int IntKind.i64 yv :: Value.int IntKind.i64 (yv / 8) :: Value.slice (some { block := bk, off := ok }) l.length sc :: Value.int IntKind.i64 (i : Int) :: Value.pointer (some { block := bk, off := ok + i }) :: Value.int IntKind.u16 yv :: Value.int IntKind.u16 (yv % 8) :: Value.bool false :: Value.bool false :: Value.bool false :: u54 :: u55 :: u56 :: u57 :: u58 :: u59 :: u60 :: u61 :: u62 :: u63 :: u64 :: u65 :: u66 :: u67 :: u68 :: u69 :: u70 :: u71 :: u72 :: u73 :: u74 :: u75 :: Value.bool true :: Value.bool false :: Value.bool false :: Value.bool true :: Value.slice la L.length lc :: Value.int IntKind.i64 (L.length : Int) :: Value.bool true :: vs 7 :: vs 0 :: vs 1 :: vs 2 :: vs 3 :: vs 4 :: vs 5 :: vs 6 :: vs 8 :: vs 9 :: u93 :: u94 :: u95 :: u96 :: u97 :: u98 :: u99 :: u100 :: u101 :: u102 :: u103 :: u104 :: u105 :: u106 :: u107 :: u108 :: u109 :: u110 :: u111 :: u112 :: u113 :: u114 :: u115 :: u116 :: u117 :: u118 :: u119 :: u120 :: u121 :: u122 :: u123 :: u124 :: u125 :: u126 :: u127 :: u128 :: u129 :: u130 :: u131 :: u132 :: u133 :: u134 :: u135 :: u136 :: u137 :: u138 :: u139 :: u140 :: u141 :: u142 :: u143 :: u144 :: u145 :: undef :: []), defers := [] } := ⟨_, rfl⟩
      have HLIT := Lib.hid hlit
      clear hlit
      obtain ⟨val, hval⟩ : ∃ val : List Value, val = [.slice la L.length lc, .agg #[.int .i64 v, .int .i64 (D : Int), .int .i64 c], .int .i64 (yv / 8), .slice la L.length lc, .int .i64 (L.length : Int), .int .i64 (k : Int), .tuple #[.agg #[.int .i64 v2, .int .i64 (D2 : Int), .int .i64 c], .bool ok2], .tuple #[.agg #[.int .i64 v2, .int .i64 (D2 : Int), .int .i64 c], .bool ok2], .agg #[.int .i64 v2, .int .i64 (D2 : Int), .int .i64 c], .bool ok2, undef] := ⟨_, rfl⟩
      have E0 := Lib.hid (show val.getD 0 undef = .slice la L.length lc by rw [hval]; rfl)
      have E1 := Lib.hid (show val.getD 1 undef = .agg #[.int .i64 v, .int .i64 (D : Int), .int .i64 c] by rw [hval]; rfl)
      have E2 := Lib.hid (show val.getD 2 undef = .int .i64 (yv / 8) by rw [hval]; rfl)
      have E3 := Lib.hid (show val.getD 3 undef = .slice la L.length lc by rw [hval]; rfl)
      have E4 := Lib.hid (show val.getD 4 undef = .int .i64 (L.length : Int) by rw [hval]; rfl)
      have E5 := Lib.hid (show val.getD 5 undef = .int .i64 (k : Int) by rw [hval]; rfl)
      have E6 := Lib.hid (show val.getD 6 undef = .tuple #[.agg #[.int .i64 v2, .int .i64 (D2 : Int), .int .i64 c], .bool ok2] by rw [hval]; rfl)
      have E7 := Lib.hid (show val.getD 7 undef = .tuple #[.agg #[.int .i64 v2, .int .i64 (D2 : Int), .int .i64 c], .bool ok2] by rw [hval]; rfl)
      have E8 := Lib.hid (show val.getD 8 undef = .agg #[.int .i64 v2, .int .i64 (D2 : Int), .int .i64 c] by rw [hval]; rfl)
      have E9 := Lib.hid (show val.getD 9 undef = .bool ok2 by rw [hval]; rfl)
      clear hval
      obtain ⟨G, hG0⟩ : ∃ G : Bool → Nat → Value → World → Prop, G = (fun bq iq vq ww => (iq ≠ 10 → vq = val.getD iq undef)) := ⟨_, rfl⟩
      have HG := Lib.hid hG0
      clear hG0
      refine region_inv (NS lit 10 (fun p q => (p == 10 && q == 0) || (p == 10 && q == 1) || (p == 10 && q == 2) || (p == 10 && q == 3) || (p == 10 && q == 4) || (p == 10 && q == 5) || (p == 10 && q == 6) || (p == 10 && q == 7) || (p == 10 && q == 8)) G fun bq wv => (bq = false → Below W5.heap.size W5 wv) ∧ (bq = true → WT base kb kw kl la lc L v2 D2 c z V M wv ∧ Below w.heap.size w wv)) (by kernel_rfl) (by decide +kernel) ?_ ?_ ?_
      · exact NS.start (fun i => ([u84, u85, u86, u87, u88, u89, u90, u83, u91, u92, undef] : List Value).getD i undef) (by rw [HLIT.out]; rfl) ⟨fun _ => below_drew _ _, fun h => (by cases h)⟩
      · refine ⟨?_, ?_, ?_, ?_, ?_, ?_, ?_, ?_, ?_, ?_, ?_, trivial⟩
        · intro bf ac wv hfb haf hJ K' hK
          obtain ⟨vs, rfl, ja, hB, j4⟩ := hJ
          replace hK := Lib.hid hK
          rw [HG.out] at j4
          replace j4 := Lib.hid (And.intro ja j4)
          replace hB := Lib.hid hB
          clear ja haf
          rw [HLIT.out]
          go_simp
          exact hK.out _ _ (NS.next (wv := wv) (vs := vs) 0 (by omega) (fun q h => absurd h (by simp)) (x := .slice la L.length lc) (by rw [HLIT.out]; rfl) (by rw [HG.out]; exact j4.out) hB.out (by rw [HG.out]; exact fun _ _ h => h) (by rw [HG.out]; exact fun _ => E0.out.symm))
        · intro bf ac wv hfb haf hJ K' hK
          obtain ⟨vs, rfl, ja, hB, j4⟩ := hJ
          replace hK := Lib.hid hK
          rw [HG.out] at j4
          have hd : bf 10 = false := by
            cases h : bf 10
            · rfl
            · exact absurd ((ja 10 1 rfl h).symm.trans hfb) (by simp)
          have hM := Lib.hid (hB.1 hd)
          replace j4 := Lib.hid (And.intro ja j4)
          replace hB := Lib.hid hB
          clear ja haf
          have xx := HT.out.wb.step hM.out
          have xx0 := xx.c 0 rfl
          have xx1 := xx.c 1 rfl
          have xx2 := xx.c 2 rfl
          have xxz := xx.2.2
          clear xx
          rw [HLIT.out]
          go_simp
          exact hK.out _ _ (NS.next (wv := wv) (vs := vs) 1 (by omega) (fun q h => absurd h (by simp)) (x := .agg #[.int .i64 v, .int .i64 (D : Int), .int .i64 c]) (by rw [HLIT.out]; rfl) (by rw [HG.out]; exact j4.out) hB.out (by rw [HG.out]; exact fun _ _ h => h) (by rw [HG.out]; exact fun _ => E1.out.symm))
        · intro bf ac wv hfb haf hJ K' hK
          obtain ⟨vs, rfl, ja, hB, j4⟩ := hJ
          replace hK := Lib.hid hK
          rw [HG.out] at j4
          replace j4 := Lib.hid (And.intro ja j4)
          replace hB := Lib.hid hB
          clear ja haf
          rw [HLIT.out]
          go_simp
          exact hK.out _ _ (NS.next (wv := wv) (vs := vs) 2 (by omega) (fun q h => absurd h (by simp)) (x := .int .i64 (yv / 8)) (by rw [HLIT.out]; rfl) (by rw [HG.out]; exact j4.out) hB.out (by rw [HG.out]; exact fun _ _ h => h) (by rw [HG.out]; exact fun _ => E2.out.symm))
        · intro bf ac wv hfb haf hJ K' hK
          obtain ⟨vs, rfl, ja, hB, j4⟩ := hJ
          replace hK := Lib.hid hK
          rw [HG.out] at j4
          replace j4 := Lib.hid (And.intro ja j4)
          replace hB := Lib.hid hB
          clear ja haf
          rw [HLIT.out]
          go_simp
          exact hK.out _ _ (NS.next (wv := wv) (vs := vs) 3 (by omega) (fun q h => absurd h (by simp)) (x := .slice la L.length lc) (by rw [HLIT.out]; rfl) (by rw [HG.out]; exact j4.out) hB.out (by rw [HG.out]; exact fun _ _ h => h) (by rw [HG.out]; exact fun _ => E3.out.symm))
        · intro bf ac wv hfb haf hJ K' hK
          obtain ⟨vs, rfl, ja, hB, j4⟩ := hJ
          replace hK := Lib.hid hK
          simp [Region.binds] at haf
          rw [HG.out] at j4
          have e3 := ((j4 3 (by simp [haf])) (by decide)).trans E3.out
          replace j4 := Lib.hid (And.intro ja j4)
          replace hB := Lib.hid hB
          clear ja haf
          rw [HLIT.out]
          go_simp
          exact hK.out _ _ (NS.next (wv := wv) (vs := vs) 4 (by omega) (fun q h => absurd h (by simp)) (x := .int .i64 (L.length : Int)) (by rw [HLIT.out]; simp only [upv, e3, Nat.reduceBEq, cond_true, cond_false]) (by rw [HG.out]; exact j4.out) hB.out (by rw [HG.out]; exact fun _ _ h => h) (by rw [HG.out]; exact fun _ => E4.out.symm))
        · intro bf ac wv hfb haf hJ K' hK
          obtain ⟨vs, rfl, ja, hB, j4⟩ := hJ
          replace hK := Lib.hid hK
          simp [Region.binds] at haf
          rw [HG.out] at j4
          have e2 := ((j4 2 (by simp [haf])) (by decide)).trans E2.out
          have e4 := ((j4 4 (by simp [haf])) (by decide)).trans E4.out
          have hd : bf 10 = false := by
            cases h : bf 10
            · rfl
            · exact absurd ((ja 10 5 rfl h).symm.trans hfb) (by simp)
          have hM := Lib.hid (hB.1 hd)
          replace j4 := Lib.hid (And.intro ja j4)
          replace hB := Lib.hid hB
          clear ja haf
          have hkm := HKM.out
          have hkt := HKT.out
          obtain ⟨g3, g4, g5⟩ := HG3.out
          have y1 := HY1.out.1
          have y2 := HY1.out.2
          have hn1 := HN8.out.1
          rw [HLIT.out]
          go_simp
          exact hK.out _ _ (NS.next (wv := wv) (vs := vs) 5 (by omega) (fun q h => absurd h (by simp)) (x := .int .i64 (k : Int)) (by rw [HLIT.out]; simp only [upv, e2, e4, Nat.reduceBEq, cond_true, cond_false]) (by rw [HG.out]; exact j4.out) hB.out (by rw [HG.out]; exact fun _ _ h => h) (by rw [HG.out]; exact fun _ => E5.out.symm))
        · intro bf ac wv hfb haf hJ K' hK
          obtain ⟨vs, rfl, ja, hB, j4⟩ := hJ
          replace hK := Lib.hid hK
          simp [Region.binds] at haf
          rw [HG.out] at j4
          have e0 := ((j4 0 (by simp [haf])) (by decide)).trans E0.out
          have e1 := ((j4 1 (by simp [haf])) (by decide)).trans E1.out
          have e5 := ((j4 5 (by simp [haf])) (by decide)).trans E5.out
          have hd : bf 10 = false := by
            cases h : bf 10
            · rfl
            · exact absurd ((ja 10 6 rfl h).symm.trans hfb) (by simp)
          have hM := Lib.hid (hB.1 hd)
          replace j4 := Lib.hid (And.intro ja j4)
          replace hB := Lib.hid hB
          clear ja haf
          rw [HLIT.out]
          go_simp
          go_at_call 27
          refine (HEC.out _ (ods_of_row rfl (row_step HT.out.row hM.out))).mono ?_
          rintro e w4 ⟨rfl, b4⟩
          exact hK.out _ _ (NS.next (wv := wv) (vs := vs) 6 (by omega) (fun q h => absurd h (by simp)) (x := .tuple #[.agg #[.int .i64 v2, .int .i64 (D2 : Int), .int .i64 c], .bool ok2]) (by rw [HLIT.out]; simp only [upv, e0, e1, e5, Nat.reduceBEq, cond_true, cond_false]) (by rw [HG.out]; exact j4.out) ⟨fun _ => keep2 b4 hM.out, fun e => absurd (e.symm.trans hd) (by simp)⟩ (by rw [HG.out]; exact fun _ _ h => h) (by rw [HG.out]; exact fun _ => E6.out.symm))
        · intro bf ac wv hfb haf hJ K' hK
          obtain ⟨vs, rfl, ja, hB, j4⟩ := hJ
          replace hK := Lib.hid hK
          simp [Region.binds] at haf
          rw [HG.out] at j4
          have e6 := ((j4 6 (by simp [haf])) (by decide)).trans E6.out
          replace j4 := Lib.hid (And.intro ja j4)
          replace hB := Lib.hid hB
          clear ja haf
          rw [HLIT.out]
          go_simp
          exact hK.out _ _ (NS.next (wv := wv) (vs := vs) 7 (by omega) (fun q h => absurd h (by simp)) (x := .tuple #[.agg #[.int .i64 v2, .int .i64 (D2 : Int), .int .i64 c], .bool ok2]) (by rw [HLIT.out]; simp only [upv, e6, Nat.reduceBEq, cond_true, cond_false]) (by rw [HG.out]; exact j4.out) hB.out (by rw [HG.out]; exact fun _ _ h => h) (by rw [HG.out]; exact fun _ => E7.out.symm))
        · intro bf ac wv hfb haf hJ K' hK
          obtain ⟨vs, rfl, ja, hB, j4⟩ := hJ
          replace hK := Lib.hid hK
          simp [Region.binds] at haf
          rw [HG.out] at j4
          have e7 := ((j4 7 (by simp [haf])) (by decide)).trans E7.out
          replace j4 := Lib.hid (And.intro ja j4)
          replace hB := Lib.hid hB
          clear ja haf
          rw [HLIT.out]
          go_simp
          exact hK.out _ _ (NS.next (wv := wv) (vs := vs) 8 (by omega) (fun q h => absurd h (by simp)) (x := .agg #[.int .i64 v2, .int .i64 (D2 : Int), .int .i64 c]) (by rw [HLIT.out]; simp only [upv, e7, Nat.reduceBEq, cond_true, cond_false]) (by rw [HG.out]; exact j4.out) hB.out (by rw [HG.out]; exact fun _ _ h => h) (by rw [HG.out]; exact fun _ => E8.out.symm))
        · intro bf ac wv hfb haf hJ K' hK
          obtain ⟨vs, rfl, ja, hB, j4⟩ := hJ
          replace hK := Lib.hid hK
          simp [Region.binds] at haf
          rw [HG.out] at j4
          have e7 := ((j4 7 (by simp [haf])) (by decide)).trans E7.out
          replace j4 := Lib.hid (And.intro ja j4)
          replace hB := Lib.hid hB
          clear ja haf
          rw [HLIT.out]
          go_simp
          exact hK.out _ _ (NS.next (wv := wv) (vs := vs) 9 (by omega) (fun q h => absurd h (by simp)) (x := .bool ok2) (by rw [HLIT.out]; simp only [upv, e7, Nat.reduceBEq, cond_true, cond_false]) (by rw [HG.out]; exact j4.out) hB.out (by rw [HG.out]; exact fun _ _ h => h) (by rw [HG.out]; exact fun _ => E9.out.symm))
        · intro bf ac wv hfb haf hJ K' hK
          obtain ⟨vs, rfl, ja, hB, j4⟩ := hJ
          replace hK := Lib.hid hK
          simp [Region.binds] at haf
          rw [HG.out] at j4
          have e8 := ((j4 8 (by simp [haf])) (by decide)).trans E8.out
          rw [hfb] at j4 hB
          have HA := Lib.hid (show ∀ q, (fun p q => (p == 10 && q == 0) || (p == 10 && q == 1) || (p == 10 && q == 2) || (p == 10 && q == 3) || (p == 10 && q == 4) || (p == 10 && q == 5) || (p == 10 && q == 6) || (p == 10 && q == 7) || (p == 10 && q == 8)) 10 q = true → bf q = true from fun q hi => by
            obtain rfl | rfl | rfl | rfl | rfl | rfl | rfl | rfl | rfl : q = 0 ∨ q = 1 ∨ q = 2 ∨ q = 3 ∨ q = 4 ∨ q = 5 ∨ q = 6 ∨ q = 7 ∨ q = 8 := by simpa [or_assoc] using hi
            all_goals simp [haf])
          have hM := Lib.hid (hB.1 rfl)
          replace j4 := Lib.hid j4
          have HE := Lib.hid (And.intro ja HA.out)
          clear ja haf hB HA
          have hC := HT.out.wb.step hM.out
          replace hC := Lib.hid hC
          have x0 := hC.out.c 0 rfl
          have y0 := hC.out.f 0 (by simp)
          have x1 := hC.out.c 1 rfl
          have y1 := hC.out.f 1 (by simp)
          have x2 := hC.out.c 2 rfl
          have y2 := hC.out.f 2 (by simp)
          have xz := hC.out.2.2
          rw [HLIT.out]
          go_simp
          have hcs := Cs.set (Cs.set (Cs.set hC.out 0 (by simp) (.int .i64 v2) rfl) 1 (by simp) (.int .i64 (D2 : Int)) rfl) 2 (by simp) (.int .i64 c) (vs' := #[.int .i64 v2, .int .i64 (D2 : Int), .int .i64 c]) rfl
          have hcg := (((Chg.of (k := kw) (Below.refl _ wv)).set 0 (.int .i64 v2)).set 1 (.int .i64 (D2 : Int))).set 2 (.int .i64 c)
          have hT := (HT.out.step hM.out).setW hcg hcs
          have hW := (keep2 hM.out HW.out).trans (hcg.below HLO.out.2.1 (keep2 hM.out HW.out).size)
          exact hK.out _ _ (NS.put (vs := vs) (w' := (((wv.setCell ⟨kw, 0, none⟩ (.int .i64 v2)).setCell ⟨kw, 1, none⟩ (.int .i64 (D2 : Int))).setCell ⟨kw, 2, none⟩ (.int .i64 c))) (by rw [HLIT.out]; simp only [e8]) HE.out ⟨fun e => (by cases e), fun _ => ⟨hT, hW⟩⟩ (fun j hj hb => by
            have q := j4.out j hb
            rw [HG.out]
            exact q) (fun v => by rw [HG.out]; exact fun h10 => absurd rfl h10))
      · intro bf ac wv hall hJ
        obtain ⟨vs, rfl, -, hB, j4⟩ := hJ
        rw [HG.out] at j4
        rw [hall 10 (by decide)] at hB j4
        have hM := Lib.hid (hB.2 rfl)
        clear hB
        obtain ⟨hT, hW9⟩ := hM.out
        have HT9 := Lib.hid hT
        have HB9 := Lib.hid hW9
        clear hT hW9 hM j4 hall
        rw [HLIT.out]
        dsimp only
        clear HLIT HG
        generalize vs = us8
        obtain ⟨W7, hW7⟩ : ∃ z9, wv = z9 := ⟨_, rfl⟩
        rw [hW7] at HT9 HB9 ⊢
        clear hW7
        have HCAN := Lib.hid (HEX.out.tr.can)
        have HLV := Lib.hid HEX.out.lens.2
        obtain ⟨ua, uc, fa, fc, hx9, hr9, hf8, hf9⟩ := HT9.out.bb
        have H303 := Lib.hid (hx9)
        have H304 := Lib.hid (hr9)
        clear hx9 hr9 hf8 hf9
        have xX0 := (cs_of_box H303.out).c 0 rfl
        have xX1 := (cs_of_box H303.out).c 1 rfl
        have xXz := (cs_of_box H303.out).2.2
        have xW0 := HT9.out.wb.c 0 rfl
        have xWz := HT9.out.wb.2.2
        go_wp2_with fail
        refine (can_r _ _ V v2 true HCAN.out _ H304.out.1 HLV.out).mono ?_
        rintro e u31 ⟨rfl, b31⟩
        clear xX0 xX1 xXz xW0 xWz
        have H305 := Lib.hid (HT9.out.step b31)
        clear HT9
        have H306 := Lib.hid (H303.out.step b31)
        clear H303
        have H307 := Lib.hid (H304.out.step b31)
        clear H304
        have H308 := Lib.hid (keep2 b31 HB9.out)
        clear HB9
        clear b31
        have t9 : i ≤ 1000 := by have h1 := HIL.out; have h2 := H9.out; omega
        go_wp2
        go_roundw
        case rel => exact ⟨i + 1, la, lc, L, v2, D2, c, z, V, M, HIL.out, (by first | rfl | go_num), rfl, HEX, H305, H308⟩
        case measure => exact meas_any HIL.out H9.out
    · skip
      obtain ⟨ua, uc, fa, fc, hx9, hr9, hf8, hf9⟩ := HT.out.bb
      have H301 := Lib.hid (hx9)
      have H302 := Lib.hid (hr9)
      clear hx9 hr9 hf8 hf9
      by_cases hlp : 0 < L.length
      rotate_left
      · skip
        have g1 : decide ((0 : Int) < (L.length : Int)) = false := decide_eq_false (by omega)
        have g2 : ¬ (0 : Int) < (L.length : Int) := by omega
        have g3 : ¬ 0 < L.length := by omega
        go_upto_region 28 with fail
        go_quiet (fail)
        obtain ⟨W8, hW8⟩ : ∃ z9, World.drewN wr nq = z9 := ⟨_, rfl⟩
        have b8 : Below wr.heap.size wr W8 := by rw [← hW8]; exact below_drewN' _ _ _
        rw [hW8]
        clear hW8
        have H303 := Lib.hid (HT.out.step b8)
        clear HT
        have H304 := Lib.hid (H301.out.step b8)
        clear H301
        have H305 := Lib.hid (H302.out.step b8)
        clear H302
        have H306 := Lib.hid (keep2 b8 HW.out)
        clear HW
        clear b8
        have HCAN := Lib.hid (HTR.out.tr.can)
        have HLV := Lib.hid HTR.out.lens.2
        have xX0 := (cs_of_box H304.out).c 0 rfl
        have xX1 := (cs_of_box H304.out).c 1 rfl
        have xXz := (cs_of_box H304.out).2.2
        have xW0 := H303.out.wb.c 0 rfl
        have xWz := H303.out.wb.2.2
        go_wp2_with fail
        refine (can_r _ _ V v true HCAN.out _ H305.out.1 HLV.out).mono ?_
        rintro e u31 ⟨rfl, b31⟩
        clear xX0 xX1 xXz xW0 xWz
        have H307 := Lib.hid (H303.out.step b31)
        clear H303
        have H308 := Lib.hid (H304.out.step b31)
        clear H304
        have H309 := Lib.hid (H305.out.step b31)
        clear H305
        have H310 := Lib.hid (keep2 b31 H306.out)
        clear H306
        clear b31
        have t9 : i ≤ 1000 := by have h1 := HIL.out; have h2 := H9.out; omega
        go_wp2
        go_roundw
        case rel => exact ⟨i + 1, la, lc, L, v, D, c, z, V, M, HIL.out, (by first | rfl | go_num), rfl, HTR, H307, H310⟩
        case measure => exact meas_any HIL.out H9.out
      obtain ⟨k, hk, hkl⟩ := mod_nat HN8.out.1 hlp
      have HKL := Lib.hid hkl
      have HKM := Lib.hid hk
      have HKT := Lib.hid (show (yv / 8).tmod (L.length : Int) = k by rw [Int.tmod_eq_emod_of_nonneg HN8.out.1]; exact hk)
      have g1 : decide ((0 : Int) < (L.length : Int)) = true := decide_eq_true (by omega)
      have g2 : (0 : Int) < (L.length : Int) := by omega
      have g3 : ¬ (L.length : Int) = 0 := by omega
      have g4 : ¬ L = [] := by intro e; rw [e] at hlp; simp at hlp
      have g5 : ((L.length : Int) == 0) = false := by simp; exact g4
      have HGA := Lib.hid (And.intro g1 g2)
      have HG3 := Lib.hid (And.intro g3 (And.intro g4 g5))
      have HLP := Lib.hid hlp
      clear hk hkl
      go_upto_region 28 with fail
      clear g1 g2 g3 g4 g5 hlp hr8 y1 y2 t1 y0 yz hlt hi
      obtain ⟨W5, hW5⟩ : ∃ z9, wr = z9 := ⟨_, rfl⟩
      rw [hW5] at HT H301 H302 HW ⊢
      clear hW5
      cases hb : D.testBit k
      · skip
        have HBT := Lib.hid hb
        clear hb
        obtain ⟨lit, hlit⟩ : ∃ lit : (Nat → Value) → Act, lit = fun vs => { tmps := List.toArray (Value.int IntKind.u8 st :: Value.slice (some { block := bk, off := ok }) l.length sc :: undef :: undef :: u4 :: Value.bool true :: Value.pointer (some { block := kb, off := 0 }) :: Value.pointer (some { block := kw, off := 0 }) :: Value.slice la L.length lc :: Value.pointer (some { block := kl, off := 0 }) :: Value.int IntKind.i64 (i : Int) :: Value.int IntKind.i64 (yv / 8) :: u12 :: u13 :: u14 :: u15 :: u16 :: u17 :: u18 :: u19 :: Value.bool true :: Value.slice (some { block := bk, off := ok }) l.length sc :: Value.int IntKind.i64 (l.length : Int) :: Value.bool (decide ((40 : Int) < (l.length : Int))) :: undef :: Value.int IntKind.u8 st :: Value.int IntKind.i64 st :: Value.int IntKind.i64 (st % 4) :: Value.agg #[Value.slice ua0 V0.length uc0, Value.slice fa0 M0.length fc0] :: Value.int IntKind.u8 st :: Value.int IntKind.i64 st :: Value.int IntKind.i64 (st % 4) :: Value.agg #[Value.int IntKind.i64 (st % 4), Value.int IntKind.i64 0, Value.int IntKind.i64 (-1)] :: Value.agg #[Value.int IntKind.i64 (-1), Value.int IntKind.i64 0, Value.int IntKind.i64 0, Value.int IntKind.i64 0] :: Value.int IntKind.i64 (i : Int) :: Value.slice (some { block := bk, off := ok }) l.length sc :: Value.int IntKind.i64 (l.length : Int) :: Value.bool true :: u38 :: u39 :: Value.slice (some { block := bk, off := ok }) l.length sc :: Value.int IntKind.i64 (i : Int) :: Value.pointer (some { block := bk, off := ok + i }) :: Value.int IntKind.u16 yv :: Value.int IntKind.i64 yv :: Value.int IntKind.i64 (yv / 8) :: Value.slice (some { block := bk, off := ok }) l.length sc :: Value.int IntKind.i64 (i : Int) :: Value.pointer (some { block := bk, off := ok + i }) :: Value.int IntKind.u16 yv :: Value.int IntKind.u16 (yv % 8) :: Value.bool false :: Value.bool false :: Value.bool false :: u54 :: u55 :: u56 :: u57 :: u58 :: u59 :: u60 :: u61 :: u62 :: u63 :: u64 :: u65 :: u66 :: u67 :: u68 :: u69 :: u70 :: u71 :: u72 :: u73 :: u74 :: u75 :: Value.bool false :: Value.bool false :: Value.bool false :: Value.bool false :: u80 :: u81 :: u82 :: u83 :: u84 :: u85 :: u86 :: u87 :: u88 :: u89 :: u90 :: u91 :: u92 :: Value.bool true :: Value.bool true :: u95 :: vs 0 :: vs 1 :: vs 2 :: vs 3 :: vs 4 :: vs 5 :: vs 6 :: vs 7 :: vs 8 :: vs 9 :: vs 10 :: u107 :: u108 :: u109 :: u110 :: u111 :: u112 :: u113 :: u114 :: u115 :: u116 :: u117 :: u118 :: u119 :: u120 :: u121 :: u122 :: u123 :: u124 :: u125 :: u126 :: u127 :: u128 :: u129 :: u130 :: u131 :: u132 :: u133 :: u134 :: u135 :: u136 :: u137 :: u138 :: u139 :: u140 :: u141 :: u142 :: u143 :: u144 :: u145 :: undef :: []), defers := [] } := ⟨_, rfl⟩
        have HLIT := Lib.hid hlit
        clear hlit
        obtain ⟨val, hval⟩ : ∃ val : List Value, val = [.slice la L.length lc, .int .i64 (L.length : Int), .bool true, .bool true, .agg #[.int .i64 v, .int .i64 (D : Int), .int .i64 c], .int .i64 (yv / 8), .slice la L.length lc, .int .i64 (L.length : Int), .int .i64 (k : Int), .bool false, .bool false] := ⟨_, rfl⟩
        have E0 := Lib.hid (show val.getD 0 undef = .slice la L.length lc by rw [hval]; rfl)
        have E1 := Lib.hid (show val.getD 1 undef = .int .i64 (L.length : Int) by rw [hval]; rfl)
        have E2 := Lib.hid (show val.getD 2 undef = .bool true by rw [hval]; rfl)
        have E3 := Lib.hid (show val.getD 3 undef = .bool true by rw [hval]; rfl)
        have E4 := Lib.hid (show val.getD 4 undef = .agg #[.int .i64 v, .int .i64 (D : Int), .int .i64 c] by rw [hval]; rfl)
        have E5 := Lib.hid (show val.getD 5 undef = .int .i64 (yv / 8) by rw [hval]; rfl)
        have E6 := Lib.hid (show val.getD 6 undef = .slice la L.length lc by rw [hval]; rfl)
        have E7 := Lib.hid (show val.getD 7 undef = .int .i64 (L.length : Int) by rw [hval]; rfl)
        have E8 := Lib.hid (show val.getD 8 undef = .int .i64 (k : Int) by rw [hval]; rfl)
        have E9 := Lib.hid (show val.getD 9 undef = .bool false by rw [hval]; rfl)
        have E10 := Lib.hid (show val.getD 10 undef = .bool false by rw [hval]; rfl)
        clear hval
        obtain ⟨G, hG0⟩ : ∃ G : Nat → Value → World → Prop, G = (fun i v w => (v = val.getD i undef)) := ⟨_, rfl⟩
        have HG := Lib.hid hG0
        clear hG0
        refine region_inv (RS lit W5 G) (by kernel_rfl) (by decide +kernel) ?_ ?_ ?_
        · exact ⟨fun i => ([u96, u97, u98, u99, u100, u101, u102, u103, u104, u105, u106] : List Value).getD i undef, (by rw [HLIT.out]; rfl), below_drew _ _, fun i h => by cases h⟩
        · refine ⟨?_, ?_, ?_, ?_, ?_, ?_, ?_, ?_, ?_, ?_, ?_, trivial⟩
          · intro bf ac wv hfb haf hJ K' hK
            obtain ⟨vs, rfl, hM, j4⟩ := hJ
            replace hK := Lib.hid hK
            replace hM := Lib.hid hM
            rw [HG.out] at j4
            replace j4 := Lib.hid j4
            clear haf hfb
            rw [HLIT.out]
            go_simp
            exact hK.out _ _ (RS.next (wv := wv) (vs := vs) 0 (x := .slice la L.length lc) (by rw [HLIT.out]; rfl) (by rw [HG.out]; exact j4.out) hM.out (by rw [HG.out]; exact fun _ _ h => h) (by rw [HG.out]; exact E0.out.symm))
          · intro bf ac wv hfb haf hJ K' hK
            obtain ⟨vs, rfl, hM, j4⟩ := hJ
            replace hK := Lib.hid hK
            replace hM := Lib.hid hM
            rw [HG.out] at j4
            simp [Region.binds] at haf
            have e0 := ((j4 0 (by simp [haf]))).trans E0.out
            replace j4 := Lib.hid j4
            clear haf hfb
            rw [HLIT.out]
            go_simp
            exact hK.out _ _ (RS.next (wv := wv) (vs := vs) 1 (x := .int .i64 (L.length : Int)) (by rw [HLIT.out]; simp only [upv, e0, Nat.reduceBEq, cond_true, cond_false]) (by rw [HG.out]; exact j4.out) hM.out (by rw [HG.out]; exact fun _ _ h => h) (by rw [HG.out]; exact E1.out.symm))
          · intro bf ac wv hfb haf hJ K' hK
            obtain ⟨vs, rfl, hM, j4⟩ := hJ
            replace hK := Lib.hid hK
            replace hM := Lib.hid hM
            rw [HG.out] at j4
            simp [Region.binds] at haf
            have e1 := ((j4 1 (by simp [haf]))).trans E1.out
            replace j4 := Lib.hid j4
            clear haf hfb
            obtain ⟨g1, g2⟩ := HGA.out
            have g3 := HLP.out
            rw [HLIT.out]
            go_simp
            exact hK.out _ _ (RS.next (wv := wv) (vs := vs) 2 (x := .bool true) (by rw [HLIT.out]; simp only [upv, e1, Nat.reduceBEq, cond_true, cond_false]) (by rw [HG.out]; exact j4.out) hM.out (by rw [HG.out]; exact fun _ _ h => h) (by rw [HG.out]; exact E2.out.symm))
          · intro bf ac wv hfb haf hJ K' hK
            obtain ⟨vs, rfl, hM, j4⟩ := hJ
            replace hK := Lib.hid hK
            replace hM := Lib.hid hM
            rw [HG.out] at j4
            simp [Region.binds] at haf
            have e2 := ((j4 2 (by simp [haf]))).trans E2.out
            replace j4 := Lib.hid j4
            clear haf hfb
            rw [HLIT.out]
            go_simp
            exact hK.out _ _ (RS.next (wv := wv) (vs := vs) 3 (x := .bool true) (by rw [HLIT.out]; simp only [upv, e2, Nat.reduceBEq, cond_true, cond_false]) (by rw [HG.out]; exact j4.out) hM.out (by rw [HG.out]; exact fun _ _ h => h) (by rw [HG.out]; exact E3.out.symm))
          · intro bf ac wv hfb haf hJ K' hK
            obtain ⟨vs, rfl, hM, j4⟩ := hJ
            replace hK := Lib.hid hK
            replace hM := Lib.hid hM
            rw [HG.out] at j4
            simp [Region.binds] at haf
            have e3 := ((j4 3 (by simp [haf]))).trans E3.out
            replace j4 := Lib.hid j4
            clear haf hfb
            have xx := HT.out.wb.step hM.out
            have xx0 := xx.c 0 rfl
            have xx1 := xx.c 1 rfl
            have xx2 := xx.c 2 rfl
            have xxz := xx.2.2
            clear xx
            rw [HLIT.out]
            go_simp
            exact hK.out _ _ (RS.next (wv := wv) (vs := vs) 4 (x := .agg #[.int .i64 v, .int .i64 (D : Int), .int .i64 c]) (by rw [HLIT.out]; simp only [upv, e3, Nat.reduceBEq, cond_true, cond_false]) (by rw [HG.out]; exact j4.out) hM.out (by rw [HG.out]; exact fun _ _ h => h) (by rw [HG.out]; exact E4.out.symm))
          · intro bf ac wv hfb haf hJ K' hK
            obtain ⟨vs, rfl, hM, j4⟩ := hJ
            replace hK := Lib.hid hK
            replace hM := Lib.hid hM
            rw [HG.out] at j4
            simp [Region.binds] at haf
            have e3 := ((j4 3 (by simp [haf]))).trans E3.out
            replace j4 := Lib.hid j4
            clear haf hfb
            rw [HLIT.out]
            go_simp
            exact hK.out _ _ (RS.next (wv := wv) (vs := vs) 5 (x := .int .i64 (yv / 8)) (by rw [HLIT.out]; simp only [upv, e3, Nat.reduceBEq, cond_true, cond_false]) (by rw [HG.out]; exact j4.out) hM.out (by rw [HG.out]; exact fun _ _ h => h) (by rw [HG.out]; exact E5.out.symm))
          · intro bf ac wv hfb haf hJ K' hK
            obtain ⟨vs, rfl, hM, j4⟩ := hJ
            replace hK := Lib.hid hK
            replace hM := Lib.hid hM
            rw [HG.out] at j4
            simp [Region.binds] at haf
            have e3 := ((j4 3 (by simp [haf]))).trans E3.out
            replace j4 := Lib.hid j4
            clear haf hfb
            rw [HLIT.out]
            go_simp
            exact hK.out _ _ (RS.next (wv := wv) (vs := vs) 6 (x := .slice la L.length lc) (by rw [HLIT.out]; simp only [upv, e3, Nat.reduceBEq, cond_true, cond_false]) (by rw [HG.out]; exact j4.out) hM.out (by rw [HG.out]; exact fun _ _ h => h) (by rw [HG.out]; exact E6.out.symm))
          · intro bf ac wv hfb haf hJ K' hK
            obtain ⟨vs, rfl, hM, j4⟩ := hJ
            replace hK := Lib.hid hK
            replace hM := Lib.hid hM
            rw [HG.out] at j4
            simp [Region.binds] at haf
            have e3 := ((j4 3 (by simp [haf]))).trans E3.out
            have e6 := ((j4 6 (by simp [haf]))).trans E6.out
            replace j4 := Lib.hid j4
            clear haf hfb
            rw [HLIT.out]
            go_simp
            exact hK.out _ _ (RS.next (wv := wv) (vs := vs) 7 (x := .int .i64 (L.length : Int)) (by rw [HLIT.out]; simp only [upv, e3, e6, Nat.reduceBEq, cond_true, cond_false]) (by rw [HG.out]; exact j4.out) hM.out (by rw [HG.out]; exact fun _ _ h => h) (by rw [HG.out]; exact E7.out.symm))
          · intro bf ac wv hfb haf hJ K' hK
            obtain ⟨vs, rfl, hM, j4⟩ := hJ
            replace hK := Lib.hid hK
            replace hM := Lib.hid hM
            rw [HG.out] at j4
            simp [Region.binds] at haf
            have e3 := ((j4 3 (by simp [haf]))).trans E3.out
            have e5 := ((j4 5 (by simp [haf]))).trans E5.out
            have e7 := ((j4 7 (by simp [haf]))).trans E7.out
            replace j4 := Lib.hid j4
            clear haf hfb
            have hkm := HKM.out
            have hkt := HKT.out
            obtain ⟨g3, g4, g5⟩ := HG3.out
            have hn1 := HN8.out.1
            rw [HLIT.out]
            go_simp
            exact hK.out _ _ (RS.next (wv := wv) (vs := vs) 8 (x := .int .i64 (k : Int)) (by rw [HLIT.out]; simp only [upv, e3, e5, e7, Nat.reduceBEq, cond_true, cond_false]) (by rw [HG.out]; exact j4.out) hM.out (by rw [HG.out]; exact fun _ _ h => h) (by rw [HG.out]; exact E8.out.symm))
          · intro bf ac wv hfb haf hJ K' hK
            obtain ⟨vs, rfl, hM, j4⟩ := hJ
            replace hK := Lib.hid hK
            replace hM := Lib.hid hM
            rw [HG.out] at j4
            simp [Region.binds] at haf
            have e3 := ((j4 3 (by simp [haf]))).trans E3.out
            have e4 := ((j4 4 (by simp [haf]))).trans E4.out
            have e8 := ((j4 8 (by simp [haf]))).trans E8.out
            replace j4 := Lib.hid j4
            clear haf hfb
            rw [HLIT.out]
            go_simp
            go_at_call 28
            refine (done_any _ _ D k HTR.out.bit (by have h1 := HKL.out; have h2 := HTR.out.tr.len; omega) _).mono ?_
            rintro e w4 ⟨rfl, b4⟩
            rw [HBT.out]
            exact hK.out _ _ (RS.next (wv := wv) (vs := vs) 9 (x := .bool false) (by rw [HLIT.out]; simp only [upv, e3, e4, e8, Nat.reduceBEq, cond_true, cond_false]) (by rw [HG.out]; exact j4.out) (keep2 b4 hM.out) (by rw [HG.out]; exact fun _ _ h => h) (by rw [HG.out]; exact E9.out.symm))
          · intro bf ac wv hfb haf hJ K' hK
            obtain ⟨vs, rfl, hM, j4⟩ := hJ
            replace hK := Lib.hid hK
            replace hM := Lib.hid hM
            rw [HG.out] at j4
            simp [Region.binds] at haf
            have e3 := ((j4 3 (by simp [haf]))).trans E3.out
            have e9 := ((j4 9 (by simp [haf]))).trans E9.out
            replace j4 := Lib.hid j4
            clear haf hfb
            rw [HLIT.out]
            go_simp
            exact hK.out _ _ (RS.next (wv := wv) (vs := vs) 10 (x := .bool false) (by rw [HLIT.out]; simp only [upv, e3, e9, Nat.reduceBEq, cond_true, cond_false]) (by rw [HG.out]; exact j4.out) hM.out (by rw [HG.out]; exact fun _ _ h => h) (by rw [HG.out]; exact E10.out.symm))
        · intro bf ac wv hall hJ
          obtain ⟨vs, rfl, hM, j4⟩ := hJ
          rw [HG.out] at j4
          have hlast := ((j4 10 (hall 10 (by decide)))).trans E10.out
          clear j4 hall
          rw [HLIT.out]
          dsimp only
          rw [hlast]
          clear hlast HLIT HG
          generalize vs = us8
          have H303 := Lib.hid (HT.out.step hM)
          clear HT
          have H304 := Lib.hid (H301.out.step hM)
          clear H301
          have H305 := Lib.hid (H302.out.step hM)
          clear H302
          have H306 := Lib.hid (keep2 hM HW.out)
          clear HW
          clear hM
          obtain ⟨W6, hW6⟩ : ∃ z9, wv = z9 := ⟨_, rfl⟩
          rw [hW6] at H303 H304 H305 H306 ⊢
          clear hW6
          have HCAN := Lib.hid (HTR.out.tr.can)
          have HLV := Lib.hid HTR.out.lens.2
          have xX0 := (cs_of_box H304.out).c 0 rfl
          have xX1 := (cs_of_box H304.out).c 1 rfl
          have xXz := (cs_of_box H304.out).2.2
          have xW0 := H303.out.wb.c 0 rfl
          have xWz := H303.out.wb.2.2
          go_wp2_with fail
          refine (can_r _ _ V v true HCAN.out _ H305.out.1 HLV.out).mono ?_
          rintro e u31 ⟨rfl, b31⟩
          clear xX0 xX1 xXz xW0 xWz
          have H307 := Lib.hid (H303.out.step b31)
          clear H303
          have H308 := Lib.hid (H304.out.step b31)
          clear H304
          have H309 := Lib.hid (H305.out.step b31)
          clear H305
          have H310 := Lib.hid (keep2 b31 H306.out)
          clear H306
          clear b31
          have t9 : i ≤ 1000 := by have h1 := HIL.out; have h2 := H9.out; omega
          go_wp2
          go_roundw
          case rel => exact ⟨i + 1, la, lc, L, v, D, c, z, V, M, HIL.out, (by first | rfl | go_num), rfl, HTR, H307, H310⟩
          case measure => exact meas_any HIL.out H9.out
      have HBT := Lib.hid hb
      clear hb
      obtain ⟨lit, hlit⟩ : ∃ lit : (Nat → Value) → Act, lit = fun vs => { tmps := List.toArray (Value.int IntKind.u8 st :: Value.slice (some { block := bk, off := ok }) l.length sc :: undef :: undef :: u4 :: Value.bool true :: Value.pointer (some { block := kb, off := 0 }) :: Value.pointer (some { block := kw, off := 0 }) :: Value.slice la L.length lc :: Value.pointer (some { block := kl, off := 0 }) :: Value.int IntKind.i64 (i : Int) :: Value.int IntKind.i64 (yv / 8) :: u12 :: u13 :: u14 :: u15 :: u16 :: u17 :: u18 :: u19 :: Value.bool true :: Value.slice (some { block := bk, off := ok }) l.length sc :: Value.int IntKind.i64 (l.length : Int) :: Value.bool (decide ((40 : Int) < (l.length : Int))) :: undef :: Value.int IntKind.u8 st :: Value.int IntKind.i64 st :: Value.int IntKind.i64 (st % 4) :: Value.agg #[Value.slice ua0 V0.length uc0, Value.slice fa0 M0.length fc0] :: Value.int IntKind.u8 st :: Value.int IntKind.i64 st :: Value.int IntKind.i64 (st % 4) :: Value.agg #[Value.int IntKind.i64 (st % 4), Value.int IntKind.i64 0, Value.int IntKind.i64 (-1)] :: Value.agg #[Value.int IntKind.i64 (-1), Value.int IntKind.i64 0, Value.int IntKind.i64 0, Value.int IntKind.i64 0] :: Value.int IntKind.i64 (i : Int) :: Value.slice (some { block := bk, off := ok }) l.length sc :: Value.int IntKind.i64 (l.length : Int) :: Value.bool true :: u38 :: u39 :: Value.slice (some { block := bk, off := ok }) l.length sc :: Value.int IntKind.i64 (i : Int) :: Value.pointer (some { block := bk, off := ok + i }) :: Value.int IntKind.u16 yv :: Value.int IntKind.i64 yv :: Value.int IntKind.i64 (yv / 8) :: Value.slice (some { block := bk, off := ok }) l.length sc :: Value.int IntKind.i64 (i : Int) :: Value.pointer (some { block := bk, off := ok + i }) :: Value.int IntKind.u16 yv :: Value.int IntKind.u16 (yv % 8) :: Value.bool false :: Value.bool false :: Value.bool false :: u54 :: u55 :: u56 :: u57 :: u58 :: u59 :: u60 :: u61 :: u62 :: u63 :: u64 :: u65 :: u66 :: u67 :: u68 :: u69 :: u70 :: u71 :: u72 :: u73 :: u74 :: u75 :: Value.bool false :: Value.bool false :: Value.bool false :: Value.bool false :: u80 :: u81 :: u82 :: u83 :: u84 :: u85 :: u86 :: u87 :: u88 :: u89 :: u90 :: u91 :: u92 :: Value.bool true :: Value.bool true :: u95 :: vs 0 :: vs 1 :: vs 2 :: vs 3 :: vs 4 :: vs 5 :: vs 6 :: vs 7 :: vs 8 :: vs 9 :: vs 10 :: u107 :: u108 :: u109 :: u110 :: u111 :: u112 :: u113 :: u114 :: u115 :: u116 :: u117 :: u118 :: u119 :: u120 :: u121 :: u122 :: u123 :: u124 :: u125 :: u126 :: u127 :: u128 :: u129 :: u130 :: u131 :: u132 :: u133 :: u134 :: u135 :: u136 :: u137 :: u138 :: u139 :: u140 :: u141 :: u142 :: u143 :: u144 :: u145 :: undef :: []), defers := [] } := ⟨_, rfl⟩
      have HLIT := Lib.hid hlit
      clear hlit
      obtain ⟨val, hval⟩ : ∃ val : List Value, val = [.slice la L.length lc, .int .i64 (L.length : Int), .bool true, .bool true, .agg #[.int .i64 v, .int .i64 (D : Int), .int .i64 c], .int .i64 (yv / 8), .slice la L.length lc, .int .i64 (L.length : Int), .int .i64 (k : Int), .bool true, .bool true] := ⟨_, rfl⟩
      have E0 := Lib.hid (show val.getD 0 undef = .slice la L.length lc by rw [hval]; rfl)
      have E1 := Lib.hid (show val.getD 1 undef = .int .i64 (L.length : Int) by rw [hval]; rfl)
      have E2 := Lib.hid (show val.getD 2 undef = .bool true by rw [hval]; rfl)
      have E3 := Lib.hid (show val.getD 3 undef = .bool true by rw [hval]; rfl)
      have E4 := Lib.hid (show val.getD 4 undef = .agg #[.int .i64 v, .int .i64 (D : Int), .int .i64 c] by rw [hval]; rfl)
      have E5 := Lib.hid (show val.getD 5 undef = .int .i64 (yv / 8) by rw [hval]; rfl)
      have E6 := Lib.hid (show val.getD 6 undef = .slice la L.length lc by rw [hval]; rfl)
      have E7 := Lib.hid (show val.getD 7 undef = .int .i64 (L.length : Int) by rw [hval]; rfl)
      have E8 := Lib.hid (show val.getD 8 undef = .int .i64 (k : Int) by rw [hval]; rfl)
      have E9 := Lib.hid (show val.getD 9 undef = .bool true by rw [hval]; rfl)
      have E10 := Lib.hid (show val.getD 10 undef = .bool true by rw [hval]; rfl)
      clear hval
      obtain ⟨G, hG0⟩ : ∃ G : Nat → Value → World → Prop, G = (fun i v w => (v = val.getD i undef)) := ⟨_, rfl⟩
      have HG := Lib.hid hG0
      clear hG0
      refine region_inv (RS lit W5 G) (by kernel_rfl) (by decide +kernel) ?_ ?_ ?_
      · exact ⟨fun i => ([u96, u97, u98, u99, u100, u101, u102, u103, u104, u105, u106] : List Value).getD i undef, (by rw [HLIT.out]; rfl), below_drew _ _, fun i h => by cases h⟩
      · refine ⟨?_, ?_, ?_, ?_, ?_, ?_, ?_, ?_, ?_, ?_, ?_, trivial⟩
        · intro bf ac wv hfb haf hJ K' hK
          obtain ⟨vs, rfl, hM, j4⟩ := hJ
          replace hK := Lib.hid hK
          replace hM := Lib.hid hM
          rw [HG.out] at j4
          replace j4 := Lib.hid j4
          clear haf hfb
          rw [HLIT.out]
          go_simp
          exact hK.out _ _ (RS.next (wv := wv) (vs := vs) 0 (x := .slice la L.length lc) (by rw [HLIT.out]; rfl) (by rw [HG.out]; exact j4.out) hM.out (by rw [HG.out]; exact fun _ _ h => h) (by rw [HG.out]; exact E0.out.symm))
        · intro bf ac wv hfb haf hJ K' hK
          obtain ⟨vs, rfl, hM, j4⟩ := hJ
          replace hK := Lib.hid hK
          replace hM := Lib.hid hM
          rw [HG.out] at j4
          simp [Region.binds] at haf
          have e0 := ((j4 0 (by simp [haf]))).trans E0.out
          replace j4 := Lib.hid j4
          clear haf hfb
          rw [HLIT.out]
          go_simp
          exact hK.out _ _ (RS.next (wv := wv) (vs := vs) 1 (x := .int .i64 (L.length : Int)) (by rw [HLIT.out]; simp only [upv, e0, Nat.reduceBEq, cond_true, cond_false]) (by rw [HG.out]; exact j4.out) hM.out (by rw [HG.out]; exact fun _ _ h => h) (by rw [HG.out]; exact E1.out.symm))
        · intro bf ac wv hfb haf hJ K' hK
          obtain ⟨vs, rfl, hM, j4⟩ := hJ
          replace hK := Lib.hid hK
          replace hM := Lib.hid hM
          rw [HG.out] at j4
          simp [Region.binds] at haf
          have e1 := ((j4 1 (by simp [haf]))).trans E1.out
          replace j4 := Lib.hid j4
          clear haf hfb
          obtain ⟨g1, g2⟩ := HGA.out
          have g3 := HLP.out
          rw [HLIT.out]
          go_simp
          exact hK.out _ _ (RS.next (wv := wv) (vs := vs) 2 (x := .bool true) (by rw [HLIT.out]; simp only [upv, e1, Nat.reduceBEq, cond_true, cond_false]) (by rw [HG.out]; exact j4.out) hM.out (by rw [HG.out]; exact fun _ _ h => h) (by rw [HG.out]; exact E2.out.symm))
        · intro bf ac wv hfb haf hJ K' hK
          obtain ⟨vs, rfl, hM, j4⟩ := hJ
          replace hK := Lib.hid hK
          replace hM := Lib.hid hM
          rw [HG.out] at j4
          simp [Region.binds] at haf
          have e2 := ((j4 2 (by simp [haf]))).trans E2.out
          replace j4 := Lib.hid j4
          clear haf hfb
          rw [HLIT.out]
          go_simp
          exact hK.out _ _ (RS.next (wv := wv) (vs := vs) 3 (x := .bool true) (by rw [HLIT.out]; simp only [upv, e2, Nat.reduceBEq, cond_true, cond_false]) (by rw [HG.out]; exact j4.out) hM.out (by rw [HG.out]; exact fun _ _ h => h) (by rw [HG.out]; exact E3.out.symm))
        · intro bf ac wv hfb haf hJ K' hK
          obtain ⟨vs, rfl, hM, j4⟩ := hJ
          replace hK := Lib.hid hK
          replace hM := Lib.hid hM
          rw [HG.out] at j4
          simp [Region.binds] at haf
          have e3 := ((j4 3 (by simp [haf]))).trans E3.out
          replace j4 := Lib.hid j4
          clear haf hfb
          have xx := HT.out.wb.step hM.out
          have xx0 := xx.c 0 rfl
          have xx1 := xx.c 1 rfl
          have xx2 := xx.c 2 rfl
          have xxz := xx.2.2
          clear xx
          rw [HLIT.out]
          go_simp
          exact hK.out _ _ (RS.next (wv := wv) (vs := vs) 4 (x := .agg #[.int .i64 v, .int .i64 (D : Int), .int .i64 c]) (by rw [HLIT.out]; simp only [upv, e3, Nat.reduceBEq, cond_true, cond_false]) (by rw [HG.out]; exact j4.out) hM.out (by rw [HG.out]; exact fun _ _ h => h) (by rw [HG.out]; exact E4.out.symm))
        · intro bf ac wv hfb haf hJ K' hK
          obtain ⟨vs, rfl, hM, j4⟩ := hJ
          replace hK := Lib.hid hK
          replace hM := Lib.hid hM
          rw [HG.out] at j4
          simp [Region.binds] at haf
          have e3 := ((j4 3 (by simp [haf]))).trans E3.out
          replace j4 := Lib.hid j4
          clear haf hfb
          rw [HLIT.out]
          go_simp
          exact hK.out _ _ (RS.next (wv := wv) (vs := vs) 5 (x := .int .i64 (yv / 8)) (by rw [HLIT.out]; simp only [upv, e3, Nat.reduceBEq, cond_true, cond_false]) (by rw [HG.out]; exact j4.out) hM.out (by rw [HG.out]; exact fun _ _ h => h) (by rw [HG.out]; exact E5.out.symm))
        · intro bf ac wv hfb haf hJ K' hK
          obtain ⟨vs, rfl, hM, j4⟩ := hJ
          replace hK := Lib.hid hK
          replace hM := Lib.hid hM
          rw [HG.out] at j4
          simp [Region.binds] at haf
          have e3 := ((j4 3 (by simp [haf]))).trans E3.out
          replace j4 := Lib.hid j4
          clear haf hfb
          rw [HLIT.out]
          go_simp
          exact hK.out _ _ (RS.next (wv := wv) (vs := vs) 6 (x := .slice la L.length lc) (by rw [HLIT.out]; simp only [upv, e3, Nat.reduceBEq, cond_true, cond_false]) (by rw [HG.out]; exact j4.out) hM.out (by rw [HG.out]; exact fun _ _ h => h) (by rw [HG.out]; exact E6.out.symm))
        · intro bf ac wv hfb haf hJ K' hK
          obtain ⟨vs, rfl, hM, j4⟩ := hJ
          replace hK := Lib.hid hK
          replace hM := Lib.hid hM
          rw [HG.out] at j4
          simp [Region.binds] at haf
          have e3 := ((j4 3 (by simp [haf]))).trans E3.out
          have e6 := ((j4 6 (by simp [haf]))).trans E6.out
          replace j4 := Lib.hid j4
          clear haf hfb
          rw [HLIT.out]
          go_simp
          exact hK.out _ _ (RS.next (wv := wv) (vs := vs) 7 (x := .int .i64 (L.length : Int)) (by rw [HLIT.out]; simp only [upv, e3, e6, Nat.reduceBEq, cond_true, cond_false]) (by rw [HG.out]; exact j4.out) hM.out (by rw [HG.out]; exact fun _ _ h => h) (by rw [HG.out]; exact E7.out.symm))
        · intro bf ac wv hfb haf hJ K' hK
          obtain ⟨vs, rfl, hM, j4⟩ := hJ
          replace hK := Lib.hid hK
          replace hM := Lib.hid hM
          rw [HG.out] at j4
          simp [Region.binds] at haf
          have e3 := ((j4 3 (by simp [haf]))).trans E3.out
          have e5 := ((j4 5 (by simp [haf]))).trans E5.out
          have e7 := ((j4 7 (by simp [haf]))).trans E7.out
          replace j4 := Lib.hid j4
          clear haf hfb
          have hkm := HKM.out
          have hkt := HKT.out
          obtain ⟨g3, g4, g5⟩ := HG3.out
          have hn1 := HN8.out.1
          rw [HLIT.out]
          go_simp
          exact hK.out _ _ (RS.next (wv := wv) (vs := vs) 8 (x := .int .i64 (k : Int)) (by rw [HLIT.out]; simp only [upv, e3, e5, e7, Nat.reduceBEq, cond_true, cond_false]) (by rw [HG.out]; exact j4.out) hM.out (by rw [HG.out]; exact fun _ _ h => h) (by rw [HG.out]; exact E8.out.symm))
        · intro bf ac wv hfb haf hJ K' hK
          obtain ⟨vs, rfl, hM, j4⟩ := hJ
          replace hK := Lib.hid hK
          replace hM := Lib.hid hM
          rw [HG.out] at j4
          simp [Region.binds] at haf
          have e3 := ((j4 3 (by simp [haf]))).trans E3.out
          have e4 := ((j4 4 (by simp [haf]))).trans E4.out
          have e8 := ((j4 8 (by simp [haf]))).trans E8.out
          replace j4 := Lib.hid j4
          clear haf hfb
          rw [HLIT.out]
          go_simp
          go_at_call 28
          refine (done_any _ _ D k HTR.out.bit (by have h1 := HKL.out; have h2 := HTR.out.tr.len; omega) _).mono ?_
          rintro e w4 ⟨rfl, b4⟩
          rw [HBT.out]
          exact hK.out _ _ (RS.next (wv := wv) (vs := vs) 9 (x := .bool true) (by rw [HLIT.out]; simp only [upv, e3, e4, e8, Nat.reduceBEq, cond_true, cond_false]) (by rw [HG.out]; exact j4.out) (keep2 b4 hM.out) (by rw [HG.out]; exact fun _ _ h => h) (by rw [HG.out]; exact E9.out.symm))
        · intro bf ac wv hfb haf hJ K' hK
          obtain ⟨vs, rfl, hM, j4⟩ := hJ
          replace hK := Lib.hid hK
          replace hM := Lib.hid hM
          rw [HG.out] at j4
          simp [Region.binds] at haf
          have e3 := ((j4 3 (by simp [haf]))).trans E3.out
          have e9 := ((j4 9 (by simp [haf]))).trans E9.out
          replace j4 := Lib.hid j4
          clear haf hfb
          rw [HLIT.out]
          go_simp
          exact hK.out _ _ (RS.next (wv := wv) (vs := vs) 10 (x := .bool true) (by rw [HLIT.out]; simp only [upv, e3, e9, Nat.reduceBEq, cond_true, cond_false]) (by rw [HG.out]; exact j4.out) hM.out (by rw [HG.out]; exact fun _ _ h => h) (by rw [HG.out]; exact E10.out.symm))
      · intro bf ac wv hall hJ
        obtain ⟨vs, rfl, hM, j4⟩ := hJ
        rw [HG.out] at j4
        have hlast := ((j4 10 (hall 10 (by decide)))).trans E10.out
        clear j4 hall
        rw [HLIT.out]
        dsimp only
        rw [hlast]
        clear hlast HLIT HG
        generalize vs = us8
        have H303 := Lib.hid (HT.out.step hM)
        clear HT
        have H304 := Lib.hid (H301.out.step hM)
        clear H301
        have H305 := Lib.hid (H302.out.step hM)
        clear H302
        have H306 := Lib.hid (keep2 hM HW.out)
        clear HW
        clear hM
        obtain ⟨W6, hW6⟩ : ∃ z9, wv = z9 := ⟨_, rfl⟩
        rw [hW6] at H303 H304 H305 H306 ⊢
        clear hW6
        obtain ⟨b2, o2, ela, hyy⟩ : ∃ b2 o2, la = some (⟨b2, o2, none⟩ : Addr) ∧ W6.cell? ⟨b2, o2 + k * 4, none⟩ = some (.int .i64 (L.getD k zO).a) := by
          obtain ⟨a2, cc2, hv2, -, -, hcs2⟩ := ods_of_row rfl H303.out.row
          have ea : la = a2 := by simp at hv2; exact hv2.1
          obtain ⟨b2, o2, hx, hx2⟩ := hcs2 (by intro e; have := HKL.out; rw [e] at this; simp at this)
          exact ⟨b2, o2, ea.trans hx, (hx2 k _ (od_get HKL.out)).1⟩
        have HYY := Lib.hid hyy
        clear hyy
        subst ela
        obtain ⟨qa, hqa⟩ : ∃ z9, (L.getD k zO).a = z9 := ⟨_, rfl⟩
        obtain ⟨EE, hE2⟩ : ∃ z9, cnE V M qa = z9 := ⟨_, rfl⟩
        obtain ⟨V2, hV2⟩ : ∃ z9, rV EE (cfM qa M) = z9 := ⟨_, rfl⟩
        obtain ⟨M2, hM2⟩ : ∃ z9, rM EE (cfM qa M) = z9 := ⟨_, rfl⟩
        rw [hqa] at HYY
        have HCF := Lib.hid (fun (h9 : EE = 0) => HTR.out.conf HKL.out HBT.out (by rw [hqa, hE2]; exact h9))
        rw [hqa] at HCF
        have HE2 := Lib.hid hE2
        have HV2 := Lib.hid hV2
        have HM2 := Lib.hid hM2
        clear hE2 hV2 hM2 hqa
        have HP := Lib.hid (And.intro (row_lt H303.out.row) (And.intro H303.out.wb.2.2 H303.out.zb.2.2))
        go_upto_region 29 with fail
        go_cut [15, 16] from 107 to 119 (fun p1 p2 wc => ∃ k : Nat, p1 = .pointer (some ⟨k, 0, none⟩) ∧ p2 = .int .i64 EE ∧ W6.heap.size ≤ k ∧ BF W6.heap.size V2 M2 k wc ∧ Below W6.heap.size W6 wc)
        case first =>
          obtain ⟨lit, hlit⟩ : ∃ lit : (Nat → Value) → Act, lit = fun vs => { tmps := List.toArray (Value.int IntKind.u8 st :: Value.slice (some { block := bk, off := ok }) l.length sc :: undef :: undef :: u4 :: Value.bool true :: Value.pointer (some { block := kb, off := 0 }) :: Value.pointer (some { block := kw, off := 0 }) :: Value.slice (some { block := b2, off := o2 }) L.length lc :: Value.pointer (some { block := kl, off := 0 }) :: Value.int IntKind.i64 (i : Int) :: Value.int IntKind.i64 (yv / 8) :: u12 :: u13 :: u14 :: vs 13 :: vs 15 :: u17 :: u18 :: u19 :: Value.bool true :: Value.slice (some { block := bk, off := ok }) l.length sc :: Value.int IntKind.i64 (l.length : Int) :: Value.bool (decide ((40 : Int) < (l.length : Int))) :: undef :: Value.int IntKind.u8 st :: Value.int IntKind.i64 st :: Value.int IntKind.i64 (st % 4) :: Value.agg #[Value.slice ua0 V0.length uc0, Value.slice fa0 M0.length fc0] :: Value.int IntKind.u8 st :: Value.int IntKind.i64 st :: Value.int IntKind.i64 (st % 4) :: Value.agg #[Value.int IntKind.i64 (st % 4), Value.int IntKind.i64 0, Value.int IntKind.i64 (-1)] :: Value.agg #[Value.int IntKind.i64 (-1), Value.int IntKind.i64 0, Value.int IntKind.i64 0, Value.int IntKind.i64 0] :: Value.int IntKind.i64 (i : Int) :: Value.slice (some { block := bk, off := ok }) l.length sc :: Value.int IntKind.i64 (l.length : Int) :: Value.bool true :: u38 :: u39 :: Value.slice (some { block := bk, off := ok }) l.length sc :: Value.int IntKind.i64 (i : Int) :: Value.pointer (some { block := bk, off := ok + i }) :: Value.int IntKind.u16 yv :: Value.int IntKind.i64 yv :: Value.int IntKind.i64 (yv / 8) :: Value.slice (some { block := bk, off := ok }) l.length sc :: Value.int IntKind.i64 (i : Int) :: Value.pointer (some { block := bk, off := ok + i }) :: Value.int IntKind.u16 yv :: Value.int IntKind.u16 (yv % 8) :: Value.bool false :: Value.bool false :: Value.bool false :: u54 :: u55 :: u56 :: u57 :: u58 :: u59 :: u60 :: u61 :: u62 :: u63 :: u64 :: u65 :: u66 :: u67 :: u68 :: u69 :: u70 :: u71 :: u72 :: u73 :: u74 :: u75 :: Value.bool false :: Value.bool false :: Value.bool false :: Value.bool false :: u80 :: u81 :: u82 :: u83 :: u84 :: u85 :: u86 :: u87 :: u88 :: u89 :: u90 :: u91 :: u92 :: Value.bool true :: Value.bool true :: u95 :: us8 0 :: us8 1 :: us8 2 :: us8 3 :: us8 4 :: us8 5 :: us8 6 :: us8 7 :: us8 8 :: us8 9 :: Value.bool true :: vs 10 :: vs 0 :: vs 1 :: vs 2 :: vs 3 :: vs 4 :: vs 5 :: vs 6 :: vs 7 :: vs 8 :: vs 9 :: vs 11 :: vs 12 :: u120 :: u121 :: u122 :: u123 :: u124 :: u125 :: u126 :: u127 :: u128 :: u129 :: u130 :: u131 :: u132 :: u133 :: u134 :: u135 :: u136 :: u137 :: u138 :: u139 :: u140 :: u141 :: u142 :: u143 :: u144 :: u145 :: undef :: []), defers := [] } := ⟨_, rfl⟩
          have HLIT := Lib.hid hlit
          clear hlit
          obtain ⟨val, hval⟩ : ∃ val : List Value, val = [.agg #[.slice ua V.length uc, .slice fa M.length fc], .slice (some ⟨b2, o2, none⟩) L.length lc, .int .i64 (yv / 8), .slice (some ⟨b2, o2, none⟩) L.length lc, .int .i64 (L.length : Int), .int .i64 (k : Int), .pointer (some ⟨b2, o2 + k * 4, none⟩), .pointer (some ⟨b2, o2 + k * 4, none⟩), .int .i64 qa, undef, undef, undef, .int .i64 EE, undef, undef, .int .i64 EE] := ⟨_, rfl⟩
          have E0 := Lib.hid (show val.getD 0 undef = .agg #[.slice ua V.length uc, .slice fa M.length fc] by rw [hval]; rfl)
          have E1 := Lib.hid (show val.getD 1 undef = .slice (some ⟨b2, o2, none⟩) L.length lc by rw [hval]; rfl)
          have E2 := Lib.hid (show val.getD 2 undef = .int .i64 (yv / 8) by rw [hval]; rfl)
          have E3 := Lib.hid (show val.getD 3 undef = .slice (some ⟨b2, o2, none⟩) L.length lc by rw [hval]; rfl)
          have E4 := Lib.hid (show val.getD 4 undef = .int .i64 (L.length : Int) by rw [hval]; rfl)
          have E5 := Lib.hid (show val.getD 5 undef = .int .i64 (k : Int) by rw [hval]; rfl)
          have E6 := Lib.hid (show val.getD 6 undef = .pointer (some ⟨b2, o2 + k * 4, none⟩) by rw [hval]; rfl)
          have E7 := Lib.hid (show val.getD 7 undef = .pointer (some ⟨b2, o2 + k * 4, none⟩) by rw [hval]; rfl)
          have E8 := Lib.hid (show val.getD 8 undef = .int .i64 qa by rw [hval]; rfl)
          have E12 := Lib.hid (show val.getD 12 undef = .int .i64 EE by rw [hval]; rfl)
          have E15 := Lib.hid (show val.getD 15 undef = .int .i64 EE by rw [hval]; rfl)
          clear hval
          obtain ⟨G, hG0⟩ : ∃ G : Bool → Nat → Value → World → Prop, G = (fun bq iq vq ww => (iq = 9 → QtF W6.heap.size V2 M2 EE bq vq ww) ∧ (iq = 10 → QtF W6.heap.size V2 M2 EE bq vq ww) ∧ (iq = 11 → QaF W6.heap.size V2 M2 bq vq ww) ∧ (iq = 13 → QkF W6.heap.size V2 M2 bq vq ww) ∧ (iq ≠ 9 → iq ≠ 10 → iq ≠ 11 → iq ≠ 13 → iq ≠ 14 → vq = val.getD iq undef)) := ⟨_, rfl⟩
          have HG := Lib.hid hG0
          clear hG0
          refine region_inv (NS lit 14 (fun p q => (p == 14 && q == 0) || (p == 14 && q == 1) || (p == 14 && q == 2) || (p == 14 && q == 3) || (p == 14 && q == 4) || (p == 14 && q == 5) || (p == 14 && q == 6) || (p == 14 && q == 7) || (p == 14 && q == 8) || (p == 14 && q == 9) || (p == 14 && q == 10) || (p == 14 && q == 11) || (p == 14 && q == 13)) G fun bq wv => (bq = false → Below W6.heap.size W6 wv) ∧ (bq = true → Below W6.heap.size W6 wv)) (by kernel_rfl) (by decide +kernel) ?_ ?_ ?_
          · exact NS.start (fun i => ([u108, u109, u110, u111, u112, u113, u114, u115, u116, u117, u107, u118, u119, u15, undef, u16] : List Value).getD i undef) (by rw [HLIT.out]; rfl) ⟨fun _ => below_drew _ _, fun h => (by cases h)⟩
          · refine ⟨?_, ?_, ?_, ?_, ?_, ?_, ?_, ?_, ?_, ?_, ?_, ?_, ?_, ?_, ?_, ?_, trivial⟩
            · intro bf ac wv hfb haf hJ K' hK
              obtain ⟨vs, rfl, ja, hB, j4⟩ := hJ
              replace hK := Lib.hid hK
              rw [HG.out] at j4
              replace j4 := Lib.hid (And.intro ja j4)
              replace hB := Lib.hid hB
              clear ja haf
              have hMM : Below W6.heap.size W6 wv := by
                cases hbb : bf 14 with
                | false => exact hB.out.1 hbb
                | true => exact hB.out.2 hbb
              have xx := (cs_of_box H304.out).step hMM
              have xx0 := xx.c 0 rfl
              have xx1 := xx.c 1 rfl
              have xxz := xx.2.2
              clear xx
              rw [HLIT.out]
              go_simp
              exact hK.out _ _ (NS.next (wv := wv) (vs := vs) 0 (by omega) (fun q h => absurd h (by simp)) (x := .agg #[.slice ua V.length uc, .slice fa M.length fc]) (by rw [HLIT.out]; rfl) (by rw [HG.out]; exact j4.out) hB.out (by rw [HG.out]; exact fun _ _ h => h) (by rw [HG.out]; exact ⟨fun h => absurd h (by decide), fun h => absurd h (by decide), fun h => absurd h (by decide), fun h => absurd h (by decide), fun _ _ _ _ _ => E0.out.symm⟩))
            · intro bf ac wv hfb haf hJ K' hK
              obtain ⟨vs, rfl, ja, hB, j4⟩ := hJ
              replace hK := Lib.hid hK
              rw [HG.out] at j4
              replace j4 := Lib.hid (And.intro ja j4)
              replace hB := Lib.hid hB
              clear ja haf
              rw [HLIT.out]
              go_simp
              exact hK.out _ _ (NS.next (wv := wv) (vs := vs) 1 (by omega) (fun q h => absurd h (by simp)) (x := .slice (some ⟨b2, o2, none⟩) L.length lc) (by rw [HLIT.out]; rfl) (by rw [HG.out]; exact j4.out) hB.out (by rw [HG.out]; exact fun _ _ h => h) (by rw [HG.out]; exact ⟨fun h => absurd h (by decide), fun h => absurd h (by decide), fun h => absurd h (by decide), fun h => absurd h (by decide), fun _ _ _ _ _ => E1.out.symm⟩))
            · intro bf ac wv hfb haf hJ K' hK
              obtain ⟨vs, rfl, ja, hB, j4⟩ := hJ
              replace hK := Lib.hid hK
              rw [HG.out] at j4
              replace j4 := Lib.hid (And.intro ja j4)
              replace hB := Lib.hid hB
              clear ja haf
              rw [HLIT.out]
              go_simp
              exact hK.out _ _ (NS.next (wv := wv) (vs := vs) 2 (by omega) (fun q h => absurd h (by simp)) (x := .int .i64 (yv / 8)) (by rw [HLIT.out]; rfl) (by rw [HG.out]; exact j4.out) hB.out (by rw [HG.out]; exact fun _ _ h => h) (by rw [HG.out]; exact ⟨fun h => absurd h (by decide), fun h => absurd h (by decide), fun h => absurd h (by decide), fun h => absurd h (by decide), fun _ _ _ _ _ => E2.out.symm⟩))
            · intro bf ac wv hfb haf hJ K' hK
              obtain ⟨vs, rfl, ja, hB, j4⟩ := hJ
              replace hK := Lib.hid hK
              rw [HG.out] at j4
              replace j4 := Lib.hid (And.intro ja j4)
              replace hB := Lib.hid hB
              clear ja haf
              rw [HLIT.out]
              go_simp
              exact hK.out _ _ (NS.next (wv := wv) (vs := vs) 3 (by omega) (fun q h => absurd h (by simp)) (x := .slice (some ⟨b2, o2, none⟩) L.length lc) (by rw [HLIT.out]; rfl) (by rw [HG.out]; exact j4.out) hB.out (by rw [HG.out]; exact fun _ _ h => h) (by rw [HG.out]; exact ⟨fun h => absurd h (by decide), fun h => absurd h (by decide), fun h => absurd h (by decide), fun h => absurd h (by decide), fun _ _ _ _ _ => E3.out.symm⟩))
            · intro bf ac wv hfb haf hJ K' hK
              obtain ⟨vs, rfl, ja, hB, j4⟩ := hJ
              replace hK := Lib.hid hK
              simp [Region.binds] at haf
              rw [HG.out] at j4
              have e3 := ((j4 3 (by simp [haf])).2.2.2.2 (by decide) (by decide) (by decide) (by decide) (by decide)).trans E3.out
              replace j4 := Lib.hid (And.intro ja j4)
              replace hB := Lib.hid hB
              clear ja haf
              rw [HLIT.out]
              go_simp
              exact hK.out _ _ (NS.next (wv := wv) (vs := vs) 4 (by omega) (fun q h => absurd h (by simp)) (x := .int .i64 (L.length : Int)) (by rw [HLIT.out]; simp only [upv, e3, Nat.reduceBEq, cond_true, cond_false]) (by rw [HG.out]; exact j4.out) hB.out (by rw [HG.out]; exact fun _ _ h => h) (by rw [HG.out]; exact ⟨fun h => absurd h (by decide), fun h => absurd h (by decide), fun h => absurd h (by decide), fun h => absurd h (by decide), fun _ _ _ _ _ => E4.out.symm⟩))
            · intro bf ac wv hfb haf hJ K' hK
              obtain ⟨vs, rfl, ja, hB, j4⟩ := hJ
              replace hK := Lib.hid hK
              simp [Region.binds] at haf
              rw [HG.out] at j4
              have e2 := ((j4 2 (by simp [haf])).2.2.2.2 (by decide) (by decide) (by decide) (by decide) (by decide)).trans E2.out
              have e4 := ((j4 4 (by simp [haf])).2.2.2.2 (by decide) (by decide) (by decide) (by decide) (by decide)).trans E4.out
              replace j4 := Lib.hid (And.intro ja j4)
              replace hB := Lib.hid hB
              clear ja haf
              have hkm := HKM.out
              have hkt := HKT.out
              obtain ⟨g3, g4, g5⟩ := HG3.out
              have hn1 := HN8.out.1
              rw [HLIT.out]
              go_simp
              exact hK.out _ _ (NS.next (wv := wv) (vs := vs) 5 (by omega) (fun q h => absurd h (by simp)) (x := .int .i64 (k : Int)) (by rw [HLIT.out]; simp only [upv, e2, e4, Nat.reduceBEq, cond_true, cond_false]) (by rw [HG.out]; exact j4.out) hB.out (by rw [HG.out]; exact fun _ _ h => h) (by rw [HG.out]; exact ⟨fun h => absurd h (by decide), fun h => absurd h (by decide), fun h => absurd h (by decide), fun h => absurd h (by decide), fun _ _ _ _ _ => E5.out.symm⟩))
            · intro bf ac wv hfb haf hJ K' hK
              obtain ⟨vs, rfl, ja, hB, j4⟩ := hJ
              replace hK := Lib.hid hK
              simp [Region.binds] at haf
              rw [HG.out] at j4
              have e1 := ((j4 1 (by simp [haf])).2.2.2.2 (by decide) (by decide) (by decide) (by decide) (by decide)).trans E1.out
              have e5 := ((j4 5 (by simp [haf])).2.2.2.2 (by decide) (by decide) (by decide) (by decide) (by decide)).trans E5.out
              replace j4 := Lib.hid (And.intro ja j4)
              replace hB := Lib.hid hB
              clear ja haf
              have hkl : (k : Int) < (L.length : Int) := by have := HKL.out; omega
              rw [HLIT.out]
              go_simp
              exact hK.out _ _ (NS.next (wv := wv) (vs := vs) 6 (by omega) (fun q h => absurd h (by simp)) (x := .pointer (some ⟨b2, o2 + k * 4, none⟩)) (by rw [HLIT.out]; simp only [upv, e1, e5, Nat.reduceBEq, cond_true, cond_false]) (by rw [HG.out]; exact j4.out) hB.out (by rw [HG.out]; exact fun _ _ h => h) (by rw [HG.out]; exact ⟨fun h => absurd h (by decide), fun h => absurd h (by decide), fun h => absurd h (by decide), fun h => absurd h (by decide), fun _ _ _ _ _ => E6.out.symm⟩))
            · intro bf ac wv hfb haf hJ K' hK
              obtain ⟨vs, rfl, ja, hB, j4⟩ := hJ
              replace hK := Lib.hid hK
              simp [Region.binds] at haf
              rw [HG.out] at j4
              have e6 := ((j4 6 (by simp [haf])).2.2.2.2 (by decide) (by decide) (by decide) (by decide) (by decide)).trans E6.out
              replace j4 := Lib.hid (And.intro ja j4)
              replace hB := Lib.hid hB
              clear ja haf
              rw [HLIT.out]
              go_simp
              exact hK.out _ _ (NS.next (wv := wv) (vs := vs) 7 (by omega) (fun q h => absurd h (by simp)) (x := .pointer (some ⟨b2, o2 + k * 4, none⟩)) (by rw [HLIT.out]; simp only [upv, e6, Nat.reduceBEq, cond_true, cond_false]) (by rw [HG.out]; exact j4.out) hB.out (by rw [HG.out]; exact fun _ _ h => h) (by rw [HG.out]; exact ⟨fun h => absurd h (by decide), fun h => absurd h (by decide), fun h => absurd h (by decide), fun h => absurd h (by decide), fun _ _ _ _ _ => E7.out.symm⟩))
            · intro bf ac wv hfb haf hJ K' hK
              obtain ⟨vs, rfl, ja, hB, j4⟩ := hJ
              replace hK := Lib.hid hK
              simp [Region.binds] at haf
              rw [HG.out] at j4
              have e7 := ((j4 7 (by simp [haf])).2.2.2.2 (by decide) (by decide) (by decide) (by decide) (by decide)).trans E7.out
              replace j4 := Lib.hid (And.intro ja j4)
              replace hB := Lib.hid hB
              clear ja haf
              have hMM : Below W6.heap.size W6 wv := by
                cases hbb : bf 14 with
                | false => exact hB.out.1 hbb
                | true => exact hB.out.2 hbb
              have yA := keep1 hMM HYY.out
              have yAz := World.block_lt_of_cell? _ _ yA
              rw [HLIT.out]
              go_simp
              exact hK.out _ _ (NS.next (wv := wv) (vs := vs) 8 (by omega) (fun q h => absurd h (by simp)) (x := .int .i64 qa) (by rw [HLIT.out]; simp only [upv, e7, Nat.reduceBEq, cond_true, cond_false]) (by rw [HG.out]; exact j4.out) hB.out (by rw [HG.out]; exact fun _ _ h => h) (by rw [HG.out]; exact ⟨fun h => absurd h (by decide), fun h => absurd h (by decide), fun h => absurd h (by decide), fun h => absurd h (by decide), fun _ _ _ _ _ => E8.out.symm⟩))
            · intro bf ac wv hfb haf hJ K' hK
              obtain ⟨vs, rfl, ja, hB, j4⟩ := hJ
              replace hK := Lib.hid hK
              simp [Region.binds] at haf
              rw [HG.out] at j4
              have e0 := ((j4 0 (by simp [haf])).2.2.2.2 (by decide) (by decide) (by decide) (by decide) (by decide)).trans E0.out
              have e8 := ((j4 8 (by simp [haf])).2.2.2.2 (by decide) (by decide) (by decide) (by decide) (by decide)).trans E8.out
              have hd : bf 14 = false := by
                cases h : bf 14
                · rfl
                · exact absurd ((ja 14 9 rfl h).symm.trans hfb) (by simp)
              have hM := Lib.hid (hB.1 hd)
              replace j4 := Lib.hid (And.intro ja j4)
              replace hB := Lib.hid hB
              clear ja haf
              rw [HLIT.out]
              go_simp
              go_at_call 13
              refine (confirmed_g qa HE2.out HV2.out HM2.out ua uc fa fc _ (H305.out.step hM.out) HTR.out.lens.1 HTR.out.lens.2).mono ?_
              rintro e w4 ⟨uar, ucr, far, fcr, rfl, b4, hr⟩
              exact hK.out _ _ (NS.next (wv := wv) (vs := vs) 9 (by omega) (fun q h => absurd h (by simp)) (x := (.tuple #[.agg #[.slice uar V2.length ucr, .slice far M2.length fcr], .int .i64 EE])) (by rw [HLIT.out]; simp only [upv, e0, e8, Nat.reduceBEq, cond_true, cond_false]) (by rw [HG.out]; exact j4.out) ⟨fun _ => keep2 b4 hM.out, fun e => absurd (e.symm.trans hd) (by simp)⟩ (by rw [HG.out]; exact fun k hbk h => ⟨fun q => (h.1 q).step b4, fun q => (h.2.1 q).step b4, fun q => (h.2.2.1 q).step b4, fun q => (h.2.2.2.1 q).step b4, h.2.2.2.2⟩) (by rw [HG.out]; exact ⟨fun _ => ⟨uar, ucr, far, fcr, rfl, fun _ => hr.le hM.out.size⟩, fun h => absurd h (by decide), fun h => absurd h (by decide), fun h => absurd h (by decide), fun h9 => absurd rfl h9⟩))
            · intro bf ac wv hfb haf hJ K' hK
              obtain ⟨vs, rfl, ja, hB, j4⟩ := hJ
              replace hK := Lib.hid hK
              simp [Region.binds] at haf
              rw [HG.out] at j4
              have e9 := (j4 9 (by simp [haf])).1 rfl
              replace j4 := Lib.hid (And.intro ja j4)
              replace hB := Lib.hid hB
              clear ja haf
              obtain ⟨uar, ucr, far, fcr, e9, hr⟩ := e9
              rw [HLIT.out]
              go_simp
              exact hK.out _ _ (NS.next (wv := wv) (vs := vs) 10 (by omega) (fun q h => absurd h (by simp)) (x := (.tuple #[.agg #[.slice uar V2.length ucr, .slice far M2.length fcr], .int .i64 EE])) (by rw [HLIT.out]; simp only [upv, e9, Nat.reduceBEq, cond_true, cond_false]) (by rw [HG.out]; exact j4.out) hB.out (by rw [HG.out]; exact fun _ _ h => h) (by rw [HG.out]; exact ⟨fun h => absurd h (by decide), fun _ => ⟨uar, ucr, far, fcr, rfl, hr⟩, fun h => absurd h (by decide), fun h => absurd h (by decide), fun h9 h10 => absurd rfl h10⟩))
            · intro bf ac wv hfb haf hJ K' hK
              obtain ⟨vs, rfl, ja, hB, j4⟩ := hJ
              replace hK := Lib.hid hK
              simp [Region.binds] at haf
              rw [HG.out] at j4
              have e10 := (j4 10 (by simp [haf])).2.1 rfl
              replace j4 := Lib.hid (And.intro ja j4)
              replace hB := Lib.hid hB
              clear ja haf
              obtain ⟨uar, ucr, far, fcr, e10, hr⟩ := e10
              rw [HLIT.out]
              go_simp
              exact hK.out _ _ (NS.next (wv := wv) (vs := vs) 11 (by omega) (fun q h => absurd h (by simp)) (x := (.agg #[.slice uar V2.length ucr, .slice far M2.length fcr])) (by rw [HLIT.out]; simp only [upv, e10, Nat.reduceBEq, cond_true, cond_false]) (by rw [HG.out]; exact j4.out) hB.out (by rw [HG.out]; exact fun _ _ h => h) (by rw [HG.out]; exact ⟨fun h => absurd h (by decide), fun h => absurd h (by decide), fun _ => ⟨uar, ucr, far, fcr, rfl, hr⟩, fun h => absurd h (by decide), fun h9 h10 h11 => absurd rfl h11⟩))
            · intro bf ac wv hfb haf hJ K' hK
              obtain ⟨vs, rfl, ja, hB, j4⟩ := hJ
              replace hK := Lib.hid hK
              simp [Region.binds] at haf
              rw [HG.out] at j4
              have e10 := (j4 10 (by simp [haf])).2.1 rfl
              replace j4 := Lib.hid (And.intro ja j4)
              replace hB := Lib.hid hB
              clear ja haf
              obtain ⟨uar, ucr, far, fcr, e10, hr⟩ := e10
              rw [HLIT.out]
              go_simp
              exact hK.out _ _ (NS.next (wv := wv) (vs := vs) 12 (by omega) (fun q h => absurd h (by simp)) (x := .int .i64 EE) (by rw [HLIT.out]; simp only [upv, e10, Nat.reduceBEq, cond_true, cond_false]) (by rw [HG.out]; exact j4.out) hB.out (by rw [HG.out]; exact fun _ _ h => h) (by rw [HG.out]; exact ⟨fun h => absurd h (by decide), fun h => absurd h (by decide), fun h => absurd h (by decide), fun h => absurd h (by decide), fun _ _ _ _ _ => E12.out.symm⟩))
            · intro bf ac wv hfb haf hJ K' hK
              obtain ⟨vs, rfl, ja, hB, j4⟩ := hJ
              replace hK := Lib.hid hK
              rw [HG.out] at j4
              have hd : bf 14 = false := by
                cases h : bf 14
                · rfl
                · exact absurd ((ja 14 13 rfl h).symm.trans hfb) (by simp)
              have hM := Lib.hid (hB.1 hd)
              replace j4 := Lib.hid (And.intro ja j4)
              replace hB := Lib.hid hB
              clear ja haf
              rw [HLIT.out]
              go_simp
              have b4 := al wv (.cells ZB 25)
              exact hK.out _ _ (NS.next (wv := wv) (vs := vs) 13 (by omega) (fun q h => absurd h (by simp)) (x := (.pointer (some ⟨wv.heap.size, 0, none⟩))) (by rw [HLIT.out]; rfl) (by rw [HG.out]; exact j4.out) ⟨fun _ => keep2 b4 hM.out, fun e => absurd (e.symm.trans hd) (by simp)⟩ (by rw [HG.out]; exact fun k hbk h => ⟨fun q => (h.1 q).step b4, fun q => (h.2.1 q).step b4, fun q => (h.2.2.1 q).step b4, fun q => (h.2.2.2.1 q).step b4, h.2.2.2.2⟩) (by rw [HG.out]; exact ⟨fun h => absurd h (by decide), fun h => absurd h (by decide), fun h => absurd h (by decide), fun _ => ⟨wv.heap.size, rfl, hM.out.size, fun _ => BoxN.new wv ZB 25, fun e => absurd (e.symm.trans hd) (by simp)⟩, fun h9 h10 h11 h13 => absurd rfl h13⟩))
            · intro bf ac wv hfb haf hJ K' hK
              obtain ⟨vs, rfl, ja, hB, j4⟩ := hJ
              replace hK := Lib.hid hK
              simp [Region.binds] at haf
              rw [HG.out] at j4
              have e11 := (j4 11 (by simp [haf])).2.2.1 rfl
              have e13 := (j4 13 (by simp [haf])).2.2.2.1 rfl
              rw [hfb] at j4 hB
              try rw [hfb] at e11
              try rw [hfb] at e13
              have HA := Lib.hid (show ∀ q, (fun p q => (p == 14 && q == 0) || (p == 14 && q == 1) || (p == 14 && q == 2) || (p == 14 && q == 3) || (p == 14 && q == 4) || (p == 14 && q == 5) || (p == 14 && q == 6) || (p == 14 && q == 7) || (p == 14 && q == 8) || (p == 14 && q == 9) || (p == 14 && q == 10) || (p == 14 && q == 11) || (p == 14 && q == 13)) 14 q = true → bf q = true from fun q hi => by
                obtain rfl | rfl | rfl | rfl | rfl | rfl | rfl | rfl | rfl | rfl | rfl | rfl | rfl : q = 0 ∨ q = 1 ∨ q = 2 ∨ q = 3 ∨ q = 4 ∨ q = 5 ∨ q = 6 ∨ q = 7 ∨ q = 8 ∨ q = 9 ∨ q = 10 ∨ q = 11 ∨ q = 13 := by simpa [or_assoc] using hi
                all_goals simp [haf])
              have hM := Lib.hid (hB.1 rfl)
              replace j4 := Lib.hid j4
              have HE := Lib.hid (And.intro ja HA.out)
              clear ja haf hB HA
              obtain ⟨k, e13, hk, hz, -⟩ := e13
              replace hz := hz rfl
              obtain ⟨uar, ucr, far, fcr, e11, hr⟩ := e11
              replace hr := Lib.hid (hr rfl)
              replace hk := Lib.hid hk
              have HZ := Lib.hid hz
              have HZC := Lib.hid (cs_of_box hz)
              have x0 := HZC.out.c 0 rfl
              have y0 := HZC.out.f 0 (by simp [ZB])
              have x1 := HZC.out.c 1 rfl
              have y1 := HZC.out.f 1 (by simp [ZB])
              have xz := HZC.out.2.2
              clear hz
              rw [HLIT.out]
              go_simp
              have p1 := BF.of_put HZ.out hr.out
              have p3 : Below W6.heap.size wv (putB wv k (.slice uar V2.length ucr) (.slice far M2.length fcr)) := putB_below _ _ hk.out
              exact hK.out _ _ (NS.put (vs := vs) (w' := putB wv k (.slice uar V2.length ucr) (.slice far M2.length fcr)) (by rw [HLIT.out]; simp only [e13, e11]) HE.out ⟨fun e => (by cases e), fun _ => hM.out.trans p3⟩ (fun j hj hb => by
                rw [HG.out]
                have q := j4.out j hb
                exact ⟨fun h => (q.1 h).put _, fun h => (q.2.1 h).put _, fun h => (q.2.2.1 h).put _, fun h => by
                  subst h
                  exact ⟨k, e13, hk.out, fun e => (by cases e), fun _ => p1⟩, q.2.2.2.2⟩) (fun v => by rw [HG.out]; exact ⟨fun h => absurd h (by decide), fun h => absurd h (by decide), fun h => absurd h (by decide), fun h => absurd h (by decide), fun h9 h10 h11 h13 h14 => absurd rfl h14⟩))
            · intro bf ac wv hfb haf hJ K' hK
              obtain ⟨vs, rfl, ja, hB, j4⟩ := hJ
              replace hK := Lib.hid hK
              simp [Region.binds] at haf
              rw [HG.out] at j4
              have e12 := ((j4 12 (by simp [haf])).2.2.2.2 (by decide) (by decide) (by decide) (by decide) (by decide)).trans E12.out
              replace j4 := Lib.hid (And.intro ja j4)
              replace hB := Lib.hid hB
              clear ja haf
              rw [HLIT.out]
              go_simp
              exact hK.out _ _ (NS.next (wv := wv) (vs := vs) 15 (by omega) (fun q h => absurd h (by simp)) (x := .int .i64 EE) (by rw [HLIT.out]; simp only [upv, e12, Nat.reduceBEq, cond_true, cond_false]) (by rw [HG.out]; exact j4.out) hB.out (by rw [HG.out]; exact fun _ _ h => h) (by rw [HG.out]; exact ⟨fun h => absurd h (by decide), fun h => absurd h (by decide), fun h => absurd h (by decide), fun h => absurd h (by decide), fun _ _ _ _ _ => E15.out.symm⟩))
          · intro bf ac wv hall hJ
            obtain ⟨vs, rfl, -, hB, j4⟩ := hJ
            rw [HG.out] at j4
            rw [hall 14 (by decide)] at hB j4
            have hM := Lib.hid (hB.2 rfl)
            clear hB
            obtain ⟨k, e13, hk, -, hp⟩ := (j4 13 (hall 13 (by decide))).2.2.2.1 rfl
            have hbb := hp rfl
            have eer := ((j4 15 (hall 15 (by decide))).2.2.2.2 (by decide) (by decide) (by decide) (by decide) (by decide)).trans E15.out
            clear j4 hall
            rw [HLIT.out]
            dsimp only
            rw [e13, eer]
            clear e13 eer hp
            go_wp2
            go_meet
            exact ⟨k, rfl, rfl, hk, hbb, hM.out⟩
        case rest =>
          obtain ⟨kx, rfl, rfl, hkx, hbf, b9⟩ := hcut
          obtain ⟨ua2, uc2, fa2, fc2, hbx, hrf⟩ := hbf
          have HFA := Lib.hid (far_fresh hrf.2.1 HP.out.1 HP.out.2.1 HP.out.2.2)
          have HFB := Lib.hid (far_fresh hrf.2.2 HP.out.1 HP.out.2.1 HP.out.2.2)
          have H307 := Lib.hid (H303.out.step b9)
          clear H303
          have H308 := Lib.hid (H304.out.step b9)
          clear H304
          have H309 := Lib.hid (H305.out.step b9)
          clear H305
          have H310 := Lib.hid (keep2 b9 H306.out)
          clear H306
          clear b9 hkx
          have H311 := Lib.hid (hbx)
          have H312 := Lib.hid (hrf.1)
          clear hbx hrf
          obtain ⟨W7, hW7⟩ : ∃ z9, wc = z9 := ⟨_, rfl⟩
          rw [hW7] at H307 H308 H309 H311 H312 H310 ⊢
          clear hW7
          by_cases hz : EE = 0
          rotate_left
          · skip
            have g3 : (EE == 0) = false := by simpa using hz
            have HCAN := Lib.hid (HTR.out.tr.can)
            have HLV := Lib.hid HTR.out.lens.2
            have xX0 := (cs_of_box H308.out).c 0 rfl
            have xX1 := (cs_of_box H308.out).c 1 rfl
            have xXz := (cs_of_box H308.out).2.2
            have xW0 := H307.out.wb.c 0 rfl
            have xWz := H307.out.wb.2.2
            go_wp2_with fail
            refine (can_r _ _ V v true HCAN.out _ H309.out.1 HLV.out).mono ?_
            rintro e u31 ⟨rfl, b31⟩
            clear xX0 xX1 xXz xW0 xWz
            have H313 := Lib.hid (H307.out.step b31)
            clear H307
            have H314 := Lib.hid (H308.out.step b31)
            clear H308
            have H315 := Lib.hid (H309.out.step b31)
            clear H309
            have H316 := Lib.hid (H311.out.step b31)
            clear H311
            have H317 := Lib.hid (H312.out.step b31)
            clear H312
            have H318 := Lib.hid (keep2 b31 H310.out)
            clear H310
            clear b31
            have t9 : i ≤ 1000 := by have h1 := HIL.out; have h2 := H9.out; omega
            go_wp2
            go_roundw
            case rel => exact ⟨i + 1, (some ⟨b2, o2, none⟩), lc, L, v, D, c, z, V, M, HIL.out, (by first | rfl | go_num), rfl, HTR, H313, H318⟩
            case measure => exact meas_any HIL.out H9.out
          have HTR2 := Lib.hid (HCF.out hz)
          subst hz
          rw [HV2.out, HM2.out] at HTR2
          have z20 := (cs_of_box H311.out).c 0 rfl
          have z21 := (cs_of_box H311.out).c 1 rfl
          have z2z := (cs_of_box H311.out).2.2
          have xX0 := (cs_of_box H308.out).c 0 rfl
          have xX1 := (cs_of_box H308.out).c 1 rfl
          have xXz := (cs_of_box H308.out).2.2
          have yX0 := (cs_of_box H308.out).f 0 (by simp)
          have yX1 := (cs_of_box H308.out).f 1 (by simp)
          have xW0 := H307.out.wb.c 0 rfl
          have xWz := H307.out.wb.2.2
          obtain ⟨n1, n2⟩ : ¬ kb = kw ∧ ¬ kw = kb := ⟨H307.out.k2.1, Ne.symm H307.out.k2.1⟩
          have HCAN := Lib.hid (HTR2.out.tr.can)
          have HLV := Lib.hid HTR2.out.lens.2
          have ht := H307.out.putB H312.out (fun _ => HFA.out) (fun _ => HFB.out)
          have hb := H310.out.trans (putB_below (w := W7) (.slice ua2 V2.length uc2) (.slice fa2 M2.length fc2) HLO.out.1)
          have hri := H312.out.kept (putB_chg W7 kb (.slice ua2 V2.length uc2) (.slice fa2 M2.length fc2)) (sl_of H308.out)
          replace ht := Lib.hid ht
          replace hb := Lib.hid hb
          replace hri := Lib.hid hri
          go_wp2_with fail
          refine (fun (q9 : Calls Try.prog 20 #[.agg #[.slice ua2 V2.length uc2, .slice fa2 M2.length fc2], .int .i64 v] (putB W7 kb (.slice ua2 V2.length uc2) (.slice fa2 M2.length fc2)) _) => q9) ?_
          obtain ⟨W9, hW9⟩ : ∃ z9, (putB W7 kb (.slice ua2 V2.length uc2) (.slice fa2 M2.length fc2)) = z9 := ⟨_, rfl⟩
          rw [hW9] at ht hb hri ⊢
          refine (can_r _ _ V2 v true HCAN.out _ hri.out.1 HLV.out).mono ?_
          rintro e w10 ⟨rfl, b10⟩
          have HT10 := Lib.hid (ht.out.step b10)
          have HB10 := Lib.hid (keep2 b10 hb.out)
          clear b10 hW9 n1 n2 z20 z21 z2z xX0 xX1 xXz yX0 yX1 xW0 xWz
          have t9 : i ≤ 1000 := by have h1 := HIL.out; have h2 := H9.out; omega
          go_wp2
          go_roundw
          case rel => exact ⟨i + 1, (some ⟨b2, o2, none⟩), lc, L, v, D, c, z, V2, M2, HIL.out, (by first | rfl | go_num), rfl, HTR2, HT10, HB10⟩
          case measure => exact meas_any HIL.out H9.out
    · skip
      obtain ⟨ua, uc, fa, fc, hx9, hr9, hf8, hf9⟩ := HT.out.bb
      have H301 := Lib.hid (hx9)
      have H302 := Lib.hid (hr9)
      clear hx9 hr9 hf8 hf9
      by_cases hlp : 0 < L.length
      rotate_left
      · skip
        have g1 : decide ((0 : Int) < (L.length : Int)) = false := decide_eq_false (by omega)
        have g2 : ¬ (0 : Int) < (L.length : Int) := by omega
        have g3 : ¬ 0 < L.length := by omega
        go_upto_region 28 with fail
        go_quiet (fail)
        obtain ⟨W8, hW8⟩ : ∃ z9, World.drewN wr nq = z9 := ⟨_, rfl⟩
        have b8 : Below wr.heap.size wr W8 := by rw [← hW8]; exact below_drewN' _ _ _
        rw [hW8]
        clear hW8
        have H303 := Lib.hid (HT.out.step b8)
        clear HT
        have H304 := Lib.hid (H301.out.step b8)
        clear H301
        have H305 := Lib.hid (H302.out.step b8)
        clear H302
        have H306 := Lib.hid (keep2 b8 HW.out)
        clear HW
        clear b8
        have HCAN := Lib.hid (HTR.out.tr.can)
        have HLV := Lib.hid HTR.out.lens.2
        have xX0 := (cs_of_box H304.out).c 0 rfl
        have xX1 := (cs_of_box H304.out).c 1 rfl
        have xXz := (cs_of_box H304.out).2.2
        have xW0 := H303.out.wb.c 0 rfl
        have xWz := H303.out.wb.2.2
        go_wp2_with fail
        refine (can_r _ _ V v true HCAN.out _ H305.out.1 HLV.out).mono ?_
        rintro e u31 ⟨rfl, b31⟩
        clear xX0 xX1 xXz xW0 xWz
        have H307 := Lib.hid (H303.out.step b31)
        clear H303
        have H308 := Lib.hid (H304.out.step b31)
        clear H304
        have H309 := Lib.hid (H305.out.step b31)
        clear H305
        have H310 := Lib.hid (keep2 b31 H306.out)
        clear H306
        clear b31
        have t9 : i ≤ 1000 := by have h1 := HIL.out; have h2 := H9.out; omega
        go_wp2
        go_roundw
        case rel => exact ⟨i + 1, la, lc, L, v, D, c, z, V, M, HIL.out, (by first | rfl | go_num), rfl, HTR, H307, H310⟩
        case measure => exact meas_any HIL.out H9.out
      obtain ⟨k, hk, hkl⟩ := mod_nat HN8.out.1 hlp
      have HKL := Lib.hid hkl
      have HKM := Lib.hid hk
      have HKT := Lib.hid (show (yv / 8).tmod (L.length : Int) = k by rw [Int.tmod_eq_emod_of_nonneg HN8.out.1]; exact hk)
      have g1 : decide ((0 : Int) < (L.length : Int)) = true := decide_eq_true (by omega)
      have g2 : (0 : Int) < (L.length : Int) := by omega
      have g3 : ¬ (L.length : Int) = 0 := by omega
      have g4 : ¬ L = [] := by intro e; rw [e] at hlp; simp at hlp
      have g5 : ((L.length : Int) == 0) = false := by simp; exact g4
      have HGA := Lib.hid (And.intro g1 g2)
      have HG3 := Lib.hid (And.intro g3 (And.intro g4 g5))
      have HLP := Lib.hid hlp
      clear hk hkl
      go_upto_region 28 with fail
      clear g1 g2 g3 g4 g5 hlp hr8 y1 y2 t1 y0 yz hlt hi
      obtain ⟨W5, hW5⟩ : ∃ z9, wr = z9 := ⟨_, rfl⟩
      rw [hW5] at HT H301 H302 HW ⊢
      clear hW5
      cases hb : D.testBit k
      · skip
        have HBT := Lib.hid hb
        clear hb
        obtain ⟨lit, hlit⟩ : ∃ lit : (Nat → Value) → Act, lit = fun vs => { tmps := List.toArray (Value.int IntKind.u8 st :: Value.slice (some { block := bk, off := ok }) l.length sc :: undef :: undef :: u4 :: Value.bool true :: Value.pointer (some { block := kb, off := 0 }) :: Value.pointer (some { block := kw, off := 0 }) :: Value.slice la L.length lc :: Value.pointer (some { block := kl, off := 0 }) :: Value.int IntKind.i64 (i : Int) :: Value.int IntKind.i64 (yv / 8) :: u12 :: u13 :: u14 :: u15 :: u16 :: u17 :: u18 :: u19 :: Value.bool true :: Value.slice (some { block := bk, off := ok }) l.length sc :: Value.int IntKind.i64 (l.length : Int) :: Value.bool (decide ((40 : Int) < (l.length : Int))) :: undef :: Value.int IntKind.u8 st :: Value.int IntKind.i64 st :: Value.int IntKind.i64 (st % 4) :: Value.agg #[Value.slice ua0 V0.length uc0, Value.slice fa0 M0.length fc0] :: Value.int IntKind.u8 st :: Value.int IntKind.i64 st :: Value.int IntKind.i64 (st % 4) :: Value.agg #[Value.int IntKind.i64 (st % 4), Value.int IntKind.i64 0, Value.int IntKind.i64 (-1)] :: Value.agg #[Value.int IntKind.i64 (-1), Value.int IntKind.i64 0, Value.int IntKind.i64 0, Value.int IntKind.i64 0] :: Value.int IntKind.i64 (i : Int) :: Value.slice (some { block := bk, off := ok }) l.length sc :: Value.int IntKind.i64 (l.length : Int) :: Value.bool true :: u38 :: u39 :: Value.slice (some { block := bk, off := ok }) l.length sc :: Value.int IntKind.i64 (i : Int) :: Value.pointer (some { block := bk, off := ok + i }) :: Value.int IntKind.u16 yv :: Value.int IntKind.i64 yv :: Value.int IntKind.i64 (yv / 8) :: Value.slice (some { block := bk, off := ok }) l.length sc :: Value.int IntKind.i64 (i : Int) :: Value.pointer (some { block := bk, off := ok + i }) :: Value.int IntKind.u16 yv :: Value.int IntKind.u16 (yv % 8) :: Value.bool false :: Value.bool false :: Value.bool false :: u54 :: u55 :: u56 :: u57 :: u58 :: u59 :: u60 :: u61 :: u62 :: u63 :: u64 :: u65 :: u66 :: u67 :: u68 :: u69 :: u70 :: u71 :: u72 :: u73 :: u74 :: u75 :: Value.bool false :: Value.bool false :: Value.bool false :: Value.bool false :: u80 :: u81 :: u82 :: u83 :: u84 :: u85 :: u86 :: u87 :: u88 :: u89 :: u90 :: u91 :: u92 :: Value.bool true :: Value.bool false :: Value.bool true :: vs 0 :: vs 1 :: vs 2 :: vs 3 :: vs 4 :: vs 5 :: vs 6 :: vs 7 :: vs 8 :: vs 9 :: vs 10 :: u107 :: u108 :: u109 :: u110 :: u111 :: u112 :: u113 :: u114 :: u115 :: u116 :: u117 :: u118 :: u119 :: u120 :: u121 :: u122 :: u123 :: u124 :: u125 :: u126 :: u127 :: u128 :: u129 :: u130 :: u131 :: u132 :: u133 :: u134 :: u135 :: u136 :: u137 :: u138 :: u139 :: u140 :: u141 :: u142 :: u143 :: u144 :: u145 :: undef :: []), defers := [] } := ⟨_, rfl⟩
        have HLIT := Lib.hid hlit
        clear hlit
        obtain ⟨val, hval⟩ : ∃ val : List Value, val = [.slice la L.length lc, .int .i64 (L.length : Int), .bool true, .bool true, .agg #[.int .i64 v, .int .i64 (D : Int), .int .i64 c], .int .i64 (yv / 8), .slice la L.length lc, .int .i64 (L.length : Int), .int .i64 (k : Int), .bool false, .bool false] := ⟨_, rfl⟩
        have E0 := Lib.hid (show val.getD 0 undef = .slice la L.length lc by rw [hval]; rfl)
        have E1 := Lib.hid (show val.getD 1 undef = .int .i64 (L.length : Int) by rw [hval]; rfl)
        have E2 := Lib.hid (show val.getD 2 undef = .bool true by rw [hval]; rfl)
        have E3 := Lib.hid (show val.getD 3 undef = .bool true by rw [hval]; rfl)
        have E4 := Lib.hid (show val.getD 4 undef = .agg #[.int .i64 v, .int .i64 (D : Int), .int .i64 c] by rw [hval]; rfl)
        have E5 := Lib.hid (show val.getD 5 undef = .int .i64 (yv / 8) by rw [hval]; rfl)
        have E6 := Lib.hid (show val.getD 6 undef = .slice la L.length lc by rw [hval]; rfl)
        have E7 := Lib.hid (show val.getD 7 undef = .int .i64 (L.length : Int) by rw [hval]; rfl)
        have E8 := Lib.hid (show val.getD 8 undef = .int .i64 (k : Int) by rw [hval]; rfl)
        have E9 := Lib.hid (show val.getD 9 undef = .bool false by rw [hval]; rfl)
        have E10 := Lib.hid (show val.getD 10 undef = .bool false by rw [hval]; rfl)
        clear hval
        obtain ⟨G, hG0⟩ : ∃ G : Nat → Value → World → Prop, G = (fun i v w => (v = val.getD i undef)) := ⟨_, rfl⟩
        have HG := Lib.hid hG0
        clear hG0
        refine region_inv (RS lit W5 G) (by kernel_rfl) (by decide +kernel) ?_ ?_ ?_
        · exact ⟨fun i => ([u96, u97, u98, u99, u100, u101, u102, u103, u104, u105, u106] : List Value).getD i undef, (by rw [HLIT.out]; rfl), below_drew _ _, fun i h => by cases h⟩
        · refine ⟨?_, ?_, ?_, ?_, ?_, ?_, ?_, ?_, ?_, ?_, ?_, trivial⟩
          · intro bf ac wv hfb haf hJ K' hK
            obtain ⟨vs, rfl, hM, j4⟩ := hJ
            replace hK := Lib.hid hK
            replace hM := Lib.hid hM
            rw [HG.out] at j4
            replace j4 := Lib.hid j4
            clear haf hfb
            rw [HLIT.out]
            go_simp
            exact hK.out _ _ (RS.next (wv := wv) (vs := vs) 0 (x := .slice la L.length lc) (by rw [HLIT.out]; rfl) (by rw [HG.out]; exact j4.out) hM.out (by rw [HG.out]; exact fun _ _ h => h) (by rw [HG.out]; exact E0.out.symm))
          · intro bf ac wv hfb haf hJ K' hK
            obtain ⟨vs, rfl, hM, j4⟩ := hJ
            replace hK := Lib.hid hK
            replace hM := Lib.hid hM
            rw [HG.out] at j4
            simp [Region.binds] at haf
            have e0 := ((j4 0 (by simp [haf]))).trans E0.out
            replace j4 := Lib.hid j4
            clear haf hfb
            rw [HLIT.out]
            go_simp
            exact hK.out _ _ (RS.next (wv := wv) (vs := vs) 1 (x := .int .i64 (L.length : Int)) (by rw [HLIT.out]; simp only [upv, e0, Nat.reduceBEq, cond_true, cond_false]) (by rw [HG.out]; exact j4.out) hM.out (by rw [HG.out]; exact fun _ _ h => h) (by rw [HG.out]; exact E1.out.symm))
          · intro bf ac wv hfb haf hJ K' hK
            obtain ⟨vs, rfl, hM, j4⟩ := hJ
            replace hK := Lib.hid hK
            replace hM := Lib.hid hM
            rw [HG.out] at j4
            simp [Region.binds] at haf
            have e1 := ((j4 1 (by simp [haf]))).trans E1.out
            replace j4 := Lib.hid j4
            clear haf hfb
            obtain ⟨g1, g2⟩ := HGA.out
            have g3 := HLP.out
            rw [HLIT.out]
            go_simp
            exact hK.out _ _ (RS.next (wv := wv) (vs := vs) 2 (x := .bool true) (by rw [HLIT.out]; simp only [upv, e1, Nat.reduceBEq, cond_true, cond_false]) (by rw [HG.out]; exact j4.out) hM.out (by rw [HG.out]; exact fun _ _ h => h) (by rw [HG.out]; exact E2.out.symm))
          · intro bf ac wv hfb haf hJ K' hK
            obtain ⟨vs, rfl, hM, j4⟩ := hJ
            replace hK := Lib.hid hK
            replace hM := Lib.hid hM
            rw [HG.out] at j4
            simp [Region.binds] at haf
            have e2 := ((j4 2 (by simp [haf]))).trans E2.out
            replace j4 := Lib.hid j4
            clear haf hfb
            rw [HLIT.out]
            go_simp
            exact hK.out _ _ (RS.next (wv := wv) (vs := vs) 3 (x := .bool true) (by rw [HLIT.out]; simp only [upv, e2, Nat.reduceBEq, cond_true, cond_false]) (by rw [HG.out]; exact j4.out) hM.out (by rw [HG.out]; exact fun _ _ h => h) (by rw [HG.out]; exact E3.out.symm))
          · intro bf ac wv hfb haf hJ K' hK
            obtain ⟨vs, rfl, hM, j4⟩ := hJ
            replace hK := Lib.hid hK
            replace hM := Lib.hid hM
            rw [HG.out] at j4
            simp [Region.binds] at haf
            have e3 := ((j4 3 (by simp [haf]))).trans E3.out
            replace j4 := Lib.hid j4
            clear haf hfb
            have xx := HT.out.wb.step hM.out
            have xx0 := xx.c 0 rfl
            have xx1 := xx.c 1 rfl
            have xx2 := xx.c 2 rfl
            have xxz := xx.2.2
            clear xx
            rw [HLIT.out]
            go_simp
            exact hK.out _ _ (RS.next (wv := wv) (vs := vs) 4 (x := .agg #[.int .i64 v, .int .i64 (D : Int), .int .i64 c]) (by rw [HLIT.out]; simp only [upv, e3, Nat.reduceBEq, cond_true, cond_false]) (by rw [HG.out]; exact j4.out) hM.out (by rw [HG.out]; exact fun _ _ h => h) (by rw [HG.out]; exact E4.out.symm))
          · intro bf ac wv hfb haf hJ K' hK
            obtain ⟨vs, rfl, hM, j4⟩ := hJ
            replace hK := Lib.hid hK
            replace hM := Lib.hid hM
            rw [HG.out] at j4
            simp [Region.binds] at haf
            have e3 := ((j4 3 (by simp [haf]))).trans E3.out
            replace j4 := Lib.hid j4
            clear haf hfb
            rw [HLIT.out]
            go_simp
            exact hK.out _ _ (RS.next (wv := wv) (vs := vs) 5 (x := .int .i64 (yv / 8)) (by rw [HLIT.out]; simp only [upv, e3, Nat.reduceBEq, cond_true, cond_false]) (by rw [HG.out]; exact j4.out) hM.out (by rw [HG.out]; exact fun _ _ h => h) (by rw [HG.out]; exact E5.out.symm))
          · intro bf ac wv hfb haf hJ K' hK
            obtain ⟨vs, rfl, hM, j4⟩ := hJ
            replace hK := Lib.hid hK
            replace hM := Lib.hid hM
            rw [HG.out] at j4
            simp [Region.binds] at haf
            have e3 := ((j4 3 (by simp [haf]))).trans E3.out
            replace j4 := Lib.hid j4
            clear haf hfb
            rw [HLIT.out]
            go_simp
            exact hK.out _ _ (RS.next (wv := wv) (vs := vs) 6 (x := .slice la L.length lc) (by rw [HLIT.out]; simp only [upv, e3, Nat.reduceBEq, cond_true, cond_false]) (by rw [HG.out]; exact j4.out) hM.out (by rw [HG.out]; exact fun _ _ h => h) (by rw [HG.out]; exact E6.out.symm))
          · intro bf ac wv hfb haf hJ K' hK
            obtain ⟨vs, rfl, hM, j4⟩ := hJ
            replace hK := Lib.hid hK
            replace hM := Lib.hid hM
            rw [HG.out] at j4
            simp [Region.binds] at haf
            have e3 := ((j4 3 (by simp [haf]))).trans E3.out
            have e6 := ((j4 6 (by simp [haf]))).trans E6.out
            replace j4 := Lib.hid j4
            clear haf hfb
            rw [HLIT.out]
            go_simp
            exact hK.out _ _ (RS.next (wv := wv) (vs := vs) 7 (x := .int .i64 (L.length : Int)) (by rw [HLIT.out]; simp only [upv, e3, e6, Nat.reduceBEq, cond_true, cond_false]) (by rw [HG.out]; exact j4.out) hM.out (by rw [HG.out]; exact fun _ _ h => h) (by rw [HG.out]; exact E7.out.symm))
          · intro bf ac wv hfb haf hJ K' hK
            obtain ⟨vs, rfl, hM, j4⟩ := hJ
            replace hK := Lib.hid hK
            replace hM := Lib.hid hM
            rw [HG.out] at j4
            simp [Region.binds] at haf
            have e3 := ((j4 3 (by simp [haf]))).trans E3.out
            have e5 := ((j4 5 (by simp [haf]))).trans E5.out
            have e7 := ((j4 7 (by simp [haf]))).trans E7.out
            replace j4 := Lib.hid j4
            clear haf hfb
            have hkm := HKM.out
            have hkt := HKT.out
            obtain ⟨g3, g4, g5⟩ := HG3.out
            have hn1 := HN8.out.1
            rw [HLIT.out]
            go_simp
            exact hK.out _ _ (RS.next (wv := wv) (vs := vs) 8 (x := .int .i64 (k : Int)) (by rw [HLIT.out]; simp only [upv, e3, e5, e7, Nat.reduceBEq, cond_true, cond_false]) (by rw [HG.out]; exact j4.out) hM.out (by rw [HG.out]; exact fun _ _ h => h) (by rw [HG.out]; exact E8.out.symm))
          · intro bf ac wv hfb haf hJ K' hK
            obtain ⟨vs, rfl, hM, j4⟩ := hJ
            replace hK := Lib.hid hK
            replace hM := Lib.hid hM
            rw [HG.out] at j4
            simp [Region.binds] at haf
            have e3 := ((j4 3 (by simp [haf]))).trans E3.out
            have e4 := ((j4 4 (by simp [haf]))).trans E4.out
            have e8 := ((j4 8 (by simp [haf]))).trans E8.out
            replace j4 := Lib.hid j4
            clear haf hfb
            rw [HLIT.out]
            go_simp
            go_at_call 28
            refine (done_any _ _ D k HTR.out.bit (by have h1 := HKL.out; have h2 := HTR.out.tr.len; omega) _).mono ?_
            rintro e w4 ⟨rfl, b4⟩
            rw [HBT.out]
            exact hK.out _ _ (RS.next (wv := wv) (vs := vs) 9 (x := .bool false) (by rw [HLIT.out]; simp only [upv, e3, e4, e8, Nat.reduceBEq, cond_true, cond_false]) (by rw [HG.out]; exact j4.out) (keep2 b4 hM.out) (by rw [HG.out]; exact fun _ _ h => h) (by rw [HG.out]; exact E9.out.symm))
          · intro bf ac wv hfb haf hJ K' hK
            obtain ⟨vs, rfl, hM, j4⟩ := hJ
            replace hK := Lib.hid hK
            replace hM := Lib.hid hM
            rw [HG.out] at j4
            simp [Region.binds] at haf
            have e3 := ((j4 3 (by simp [haf]))).trans E3.out
            have e9 := ((j4 9 (by simp [haf]))).trans E9.out
            replace j4 := Lib.hid j4
            clear haf hfb
            rw [HLIT.out]
            go_simp
            exact hK.out _ _ (RS.next (wv := wv) (vs := vs) 10 (x := .bool false) (by rw [HLIT.out]; simp only [upv, e3, e9, Nat.reduceBEq, cond_true, cond_false]) (by rw [HG.out]; exact j4.out) hM.out (by rw [HG.out]; exact fun _ _ h => h) (by rw [HG.out]; exact E10.out.symm))
        · intro bf ac wv hall hJ
          obtain ⟨vs, rfl, hM, j4⟩ := hJ
          rw [HG.out] at j4
          have hlast := ((j4 10 (hall 10 (by decide)))).trans E10.out
          clear j4 hall
          rw [HLIT.out]
          dsimp only
          rw [hlast]
          clear hlast HLIT HG
          generalize vs = us8
          have H303 := Lib.hid (HT.out.step hM)
          clear HT
          have H304 := Lib.hid (H301.out.step hM)
          clear H301
          have H305 := Lib.hid (H302.out.step hM)
          clear H302
          have H306 := Lib.hid (keep2 hM HW.out)
          clear HW
          clear hM
          obtain ⟨W6, hW6⟩ : ∃ z9, wv = z9 := ⟨_, rfl⟩
          rw [hW6] at H303 H304 H305 H306 ⊢
          clear hW6
          have HCAN := Lib.hid (HTR.out.tr.can)
          have HLV := Lib.hid HTR.out.lens.2
          have xX0 := (cs_of_box H304.out).c 0 rfl
          have xX1 := (cs_of_box H304.out).c 1 rfl
          have xXz := (cs_of_box H304.out).2.2
          have xW0 := H303.out.wb.c 0 rfl
          have xWz := H303.out.wb.2.2
          go_wp2_with fail
          refine (can_r _ _ V v true HCAN.out _ H305.out.1 HLV.out).mono ?_
          rintro e u31 ⟨rfl, b31⟩
          clear xX0 xX1 xXz xW0 xWz
          have H307 := Lib.hid (H303.out.step b31)
          clear H303
          have H308 := Lib.hid (H304.out.step b31)
          clear H304
          have H309 := Lib.hid (H305.out.step b31)
          clear H305
          have H310 := Lib.hid (keep2 b31 H306.out)
          clear H306
          clear b31
          have t9 : i ≤ 1000 := by have h1 := HIL.out; have h2 := H9.out; omega
          go_wp2
          go_roundw
          case rel => exact ⟨i + 1, la, lc, L, v, D, c, z, V, M, HIL.out, (by first | rfl | go_num), rfl, HTR, H307, H310⟩
          case measure => exact meas_any HIL.out H9.out
      have HBT := Lib.hid hb
      clear hb
      obtain ⟨lit, hlit⟩ : ∃ lit : (Nat → Value) → Act, lit = fun vs => { tmps := List.toArray (Value.int IntKind.u8 st :: Value.slice (some { block := bk, off := ok }) l.length sc :: undef :: undef :: u4 :: Value.bool true :: Value.pointer (some { block := kb, off := 0 }) :: Value.pointer (some { block := kw, off := 0 }) :: Value.slice la L.length lc :: Value.pointer (some { block := kl, off := 0 }) :: Value.int IntKind.i64 (i : Int) :: Value.int IntKind.i64 (yv / 8) :: u12 :: u13 :: u14 :: u15 :: u16 :: u17 :: u18 :: u19 :: Value.bool true :: Value.slice (some { block := bk, off := ok }) l.length sc :: Value.int IntKind.i64 (l.length : Int) :: Value.bool (decide ((40 : Int) < (l.length : Int))) :: undef :: Value.int IntKind.u8 st :: Value.int IntKind.i64 st :: Value.int IntKind.i64 (st % 4) :: Value.agg #[Value.slice ua0 V0.length uc0, Value.slice fa0 M0.length fc0] :: Value.int IntKind.u8 st :: Value.int IntKind.i64 st :: Value.int IntKind.i64 (st % 4) :: Value.agg #[Value.int IntKind.i64 (st % 4), Value.int IntKind.i64 0, Value.int IntKind.i64 (-1)] :: Value.agg #[Value.int IntKind.i64 (-1), Value.int IntKind.i64 0, Value.int IntKind.i64 0, Value.int IntKind.i64 0] :: Value.int IntKind.i64 (i : Int) :: Value.slice (some { block := bk, off := ok }) l.length sc :: Value.int IntKind.i64 (l.length : Int) :: Value.bool true :: u38 :: u39 :: Value.slice (some { block := bk, off := ok }) l.length sc :: Value.int IntKind.i64 (i : Int) :: Value.pointer (some { block := bk, off := ok + i }) :: Value.int IntKind.u16 yv :: Value.int IntKind.i64 yv :: Value.int IntKind.i64 (yv / 8) :: Value.slice (some { block := bk, off := ok }) l.length sc :: Value.int IntKind.i64 (i : Int) :: Value.pointer (some { block := bk, off := ok + i }) :: Value.int IntKind.u16 yv :: Value.int IntKind.u16 (yv % 8) :: Value.bool false :: Value.bool false :: Value.bool false :: u54 :: u55 :: u56 :: u57 :: u58 :: u59 :: u60 :: u61 :: u62 :: u63 :: u64 :: u65 :: u66 :: u67 :: u68 :: u69 :: u70 :: u71 :: u72 :: u73 :: u74 :: u75 :: Value.bool false :: Value.bool false :: Value.bool false :: Value.bool false :: u80 :: u81 :: u82 :: u83 :: u84 :: u85 :: u86 :: u87 :: u88 :: u89 :: u90 :: u91 :: u92 :: Value.bool true :: Value.bool false :: Value.bool true :: vs 0 :: vs 1 :: vs 2 :: vs 3 :: vs 4 :: vs 5 :: vs 6 :: vs 7 :: vs 8 :: vs 9 :: vs 10 :: u107 :: u108 :: u109 :: u110 :: u111 :: u112 :: u113 :: u114 :: u115 :: u116 :: u117 :: u118 :: u119 :: u120 :: u121 :: u122 :: u123 :: u124 :: u125 :: u126 :: u127 :: u128 :: u129 :: u130 :: u131 :: u132 :: u133 :: u134 :: u135 :: u136 :: u137 :: u138 :: u139 :: u140 :: u141 :: u142 :: u143 :: u144 :: u145 :: undef :: []), defers := [] } := ⟨_, rfl⟩
      have HLIT := Lib.hid hlit
      clear hlit
      obtain ⟨val, hval⟩ : ∃ val : List Value, val = [.slice la L.length lc, .int .i64 (L.length : Int), .bool true, .bool true, .agg #[.int .i64 v, .int .i64 (D : Int), .int .i64 c], .int .i64 (yv / 8), .slice la L.length lc, .int .i64 (L.length : Int), .int .i64 (k : Int), .bool true, .bool true] := ⟨_, rfl⟩
      have E0 := Lib.hid (show val.getD 0 undef = .slice la L.length lc by rw [hval]; rfl)
      have E1 := Lib.hid (show val.getD 1 undef = .int .i64 (L.length : Int) by rw [hval]; rfl)
      have E2 := Lib.hid (show val.getD 2 undef = .bool true by rw [hval]; rfl)
      have E3 := Lib.hid (show val.getD 3 undef = .bool true by rw [hval]; rfl)
      have E4 := Lib.hid (show val.getD 4 undef = .agg #[.int .i64 v, .int .i64 (D : Int), .int .i64 c] by rw [hval]; rfl)
      have E5 := Lib.hid (show val.getD 5 undef = .int .i64 (yv / 8) by rw [hval]; rfl)
      have E6 := Lib.hid (show val.getD 6 undef = .slice la L.length lc by rw [hval]; rfl)
      have E7 := Lib.hid (show val.getD 7 undef = .int .i64 (L.length : Int) by rw [hval]; rfl)
      have E8 := Lib.hid (show val.getD 8 undef = .int .i64 (k : Int) by rw [hval]; rfl)
      have E9 := Lib.hid (show val.getD 9 undef = .bool true by rw [hval]; rfl)
      have E10 := Lib.hid (show val.getD 10 undef = .bool true by rw [hval]; rfl)
      clear hval
      obtain ⟨G, hG0⟩ : ∃ G : Nat → Value → World → Prop, G = (fun i v w => (v = val.getD i undef)) := ⟨_, rfl⟩
      have HG := Lib.hid hG0
      clear hG0
      refine region_inv (RS lit W5 G) (by kernel_rfl) (by decide +kernel) ?_ ?_ ?_
      · exact ⟨fun i => ([u96, u97, u98, u99, u100, u101, u102, u103, u104, u105, u106] : List Value).getD i undef, (by rw [HLIT.out]; rfl), below_drew _ _, fun i h => by cases h⟩
      · refine ⟨?_, ?_, ?_, ?_, ?_, ?_, ?_, ?_, ?_, ?_, ?_, trivial⟩
        · intro bf ac wv hfb haf hJ K' hK
          obtain ⟨vs, rfl, hM, j4⟩ := hJ
          replace hK := Lib.hid hK
          replace hM := Lib.hid hM
          rw [HG.out] at j4
          replace j4 := Lib.hid j4
          clear haf hfb
          rw [HLIT.out]
          go_simp
          exact hK.out _ _ (RS.next (wv := wv) (vs := vs) 0 (x := .slice la L.length lc) (by rw [HLIT.out]; rfl) (by rw [HG.out]; exact j4.out) hM.out (by rw [HG.out]; exact fun _ _ h => h) (by rw [HG.out]; exact E0.out.symm))
        · intro bf ac wv hfb haf hJ K' hK
          obtain ⟨vs, rfl, hM, j4⟩ := hJ
          replace hK := Lib.hid hK
          replace hM := Lib.hid hM
          rw [HG.out] at j4
          simp [Region.binds] at haf
          have e0 := ((j4 0 (by simp [haf]))).trans E0.out
          replace j4 := Lib.hid j4
          clear haf hfb
          rw [HLIT.out]
          go_simp
          exact hK.out _ _ (RS.next (wv := wv) (vs := vs) 1 (x := .int .i64 (L.length : Int)) (by rw [HLIT.out]; simp only [upv, e0, Nat.reduceBEq, cond_true, cond_false]) (by rw [HG.out]; exact j4.out) hM.out (by rw [HG.out]; exact fun _ _ h => h) (by rw [HG.out]; exact E1.out.symm))
        · intro bf ac wv hfb haf hJ K' hK
          obtain ⟨vs, rfl, hM, j4⟩ := hJ
          replace hK := Lib.hid hK
          replace hM := Lib.hid hM
          rw [HG.out] at j4
          simp [Region.binds] at haf
          have e1 := ((j4 1 (by simp [haf]))).trans E1.out
          replace j4 := Lib.hid j4
          clear haf hfb
          obtain ⟨g1, g2⟩ := HGA.out
          have g3 := HLP.out
          rw [HLIT.out]
          go_simp
          exact hK.out _ _ (RS.next (wv := wv) (vs := vs) 2 (x := .bool true) (by rw [HLIT.out]; simp only [upv, e1, Nat.reduceBEq, cond_true, cond_false]) (by rw [HG.out]; exact j4.out) hM.out (by rw [HG.out]; exact fun _ _ h => h) (by rw [HG.out]; exact E2.out.symm))
        · intro bf ac wv hfb haf hJ K' hK
          obtain ⟨vs, rfl, hM, j4⟩ := hJ
          replace hK := Lib.hid hK
          replace hM := Lib.hid hM
          rw [HG.out] at j4
          simp [Region.binds] at haf
          have e2 := ((j4 2 (by simp [haf]))).trans E2.out
          replace j4 := Lib.hid j4
          clear haf hfb
          rw [HLIT.out]
          go_simp
          exact hK.out _ _ (RS.next (wv := wv) (vs := vs) 3 (x := .bool true) (by rw [HLIT.out]; simp only [upv, e2, Nat.reduceBEq, cond_true, cond_false]) (by rw [HG.out]; exact j4.out) hM.out (by rw [HG.out]; exact fun _ _ h => h) (by rw [HG.out]; exact E3.out.symm))
        · intro bf ac wv hfb haf hJ K' hK
          obtain ⟨vs, rfl, hM, j4⟩ := hJ
          replace hK := Lib.hid hK
          replace hM := Lib.hid hM
          rw [HG.out] at j4
          simp [Region.binds] at haf
          have e3 := ((j4 3 (by simp [haf]))).trans E3.out
          replace j4 := Lib.hid j4
          clear haf hfb
          have xx := HT.out.wb.step hM.out
          have xx0 := xx.c 0 rfl
          have xx1 := xx.c 1 rfl
          have xx2 := xx.c 2 rfl
          have xxz := xx.2.2
          clear xx
          rw [HLIT.out]
          go_simp
          exact hK.out _ _ (RS.next (wv := wv) (vs := vs) 4 (x := .agg #[.int .i64 v, .int .i64 (D : Int), .int .i64 c]) (by rw [HLIT.out]; simp only [upv, e3, Nat.reduceBEq, cond_true, cond_false]) (by rw [HG.out]; exact j4.out) hM.out (by rw [HG.out]; exact fun _ _ h => h) (by rw [HG.out]; exact E4.out.symm))
        · intro bf ac wv hfb haf hJ K' hK
          obtain ⟨vs, rfl, hM, j4⟩ := hJ
          replace hK := Lib.hid hK
          replace hM := Lib.hid hM
          rw [HG.out] at j4
          simp [Region.binds] at haf
          have e3 := ((j4 3 (by simp [haf]))).trans E3.out
          replace j4 := Lib.hid j4
          clear haf hfb
          rw [HLIT.out]
          go_simp
          exact hK.out _ _ (RS.next (wv := wv) (vs := vs) 5 (x := .int .i64 (yv / 8)) (by rw [HLIT.out]; simp only [upv, e3, Nat.reduceBEq, cond_true, cond_false]) (by rw [HG.out]; exact j4.out) hM.out (by rw [HG.out]; exact fun _ _ h => h) (by rw [HG.out]; exact E5.out.symm))
        · intro bf ac wv hfb haf hJ K' hK
          obtain ⟨vs, rfl, hM, j4⟩ := hJ
          replace hK := Lib.hid hK
          replace hM := Lib.hid hM
          rw [HG.out] at j4
          simp [Region.binds] at haf
          have e3 := ((j4 3 (by simp [haf]))).trans E3.out
          replace j4 := Lib.hid j4
          clear haf hfb
          rw [HLIT.out]
          go_simp
          exact hK.out _ _ (RS.next (wv := wv) (vs := vs) 6 (x := .slice la L.length lc) (by rw [HLIT.out]; simp only [upv, e3, Nat.reduceBEq, cond_true, cond_false]) (by rw [HG.out]; exact j4.out) hM.out (by rw [HG.out]; exact fun _ _ h => h) (by rw [HG.out]; exact E6.out.symm))
        · intro bf ac wv hfb haf hJ K' hK
          obtain ⟨vs, rfl, hM, j4⟩ := hJ
          replace hK := Lib.hid hK
          replace hM := Lib.hid hM
          rw [HG.out] at j4
          simp [Region.binds] at haf
          have e3 := ((j4 3 (by simp [haf]))).trans E3.out
          have e6 := ((j4 6 (by simp [haf]))).trans E6.out
          replace j4 := Lib.hid j4
          clear haf hfb
          rw [HLIT.out]
          go_simp
          exact hK.out _ _ (RS.next (wv := wv) (vs := vs) 7 (x := .int .i64 (L.length : Int)) (by rw [HLIT.out]; simp only [upv, e3, e6, Nat.reduceBEq, cond_true, cond_false]) (by rw [HG.out]; exact j4.out) hM.out (by rw [HG.out]; exact fun _ _ h => h) (by rw [HG.out]; exact E7.out.symm))
        · intro bf ac wv hfb haf hJ K' hK
          obtain ⟨vs, rfl, hM, j4⟩ := hJ
          replace hK := Lib.hid hK
          replace hM := Lib.hid hM
          rw [HG.out] at j4
          simp [Region.binds] at haf
          have e3 := ((j4 3 (by simp [haf]))).trans E3.out
          have e5 := ((j4 5 (by simp [haf]))).trans E5.out
          have e7 := ((j4 7 (by simp [haf]))).trans E7.out
          replace j4 := Lib.hid j4
          clear haf hfb
          have hkm := HKM.out
          have hkt := HKT.out
          obtain ⟨g3, g4, g5⟩ := HG3.out
          have hn1 := HN8.out.1
          rw [HLIT.out]
          go_simp
          exact hK.out _ _ (RS.next (wv := wv) (vs := vs) 8 (x := .int .i64 (k : Int)) (by rw [HLIT.out]; simp only [upv, e3, e5, e7, Nat.reduceBEq, cond_true, cond_false]) (by rw [HG.out]; exact j4.out) hM.out (by rw [HG.out]; exact fun _ _ h => h) (by rw [HG.out]; exact E8.out.symm))
        · intro bf ac wv hfb haf hJ K' hK
          obtain ⟨vs, rfl, hM, j4⟩ := hJ
          replace hK := Lib.hid hK
          replace hM := Lib.hid hM
          rw [HG.out] at j4
          simp [Region.binds] at haf
          have e3 := ((j4 3 (by simp [haf]))).trans E3.out
          have e4 := ((j4 4 (by simp [haf]))).trans E4.out
          have e8 := ((j4 8 (by simp [haf]))).trans E8.out
          replace j4 := Lib.hid j4
          clear haf hfb
          rw [HLIT.out]
          go_simp
          go_at_call 28
          refine (done_any _ _ D k HTR.out.bit (by have h1 := HKL.out; have h2 := HTR.out.tr.len; omega) _).mono ?_
          rintro e w4 ⟨rfl, b4⟩
          rw [HBT.out]
          exact hK.out _ _ (RS.next (wv := wv) (vs := vs) 9 (x := .bool true) (by rw [HLIT.out]; simp only [upv, e3, e4, e8, Nat.reduceBEq, cond_true, cond_false]) (by rw [HG.out]; exact j4.out) (keep2 b4 hM.out) (by rw [HG.out]; exact fun _ _ h => h) (by rw [HG.out]; exact E9.out.symm))
        · intro bf ac wv hfb haf hJ K' hK
          obtain ⟨vs, rfl, hM, j4⟩ := hJ
          replace hK := Lib.hid hK
          replace hM := Lib.hid hM
          rw [HG.out] at j4
          simp [Region.binds] at haf
          have e3 := ((j4 3 (by simp [haf]))).trans E3.out
          have e9 := ((j4 9 (by simp [haf]))).trans E9.out
          replace j4 := Lib.hid j4
          clear haf hfb
          rw [HLIT.out]
          go_simp
          exact hK.out _ _ (RS.next (wv := wv) (vs := vs) 10 (x := .bool true) (by rw [HLIT.out]; simp only [upv, e3, e9, Nat.reduceBEq, cond_true, cond_false]) (by rw [HG.out]; exact j4.out) hM.out (by rw [HG.out]; exact fun _ _ h => h) (by rw [HG.out]; exact E10.out.symm))
      · intro bf ac wv hall hJ
        obtain ⟨vs, rfl, hM, j4⟩ := hJ
        rw [HG.out] at j4
        have hlast := ((j4 10 (hall 10 (by decide)))).trans E10.out
        clear j4 hall
        rw [HLIT.out]
        dsimp only
        rw [hlast]
        clear hlast HLIT HG
        generalize vs = us8
        have H303 := Lib.hid (HT.out.step hM)
        clear HT
        have H304 := Lib.hid (H301.out.step hM)
        clear H301
        have H305 := Lib.hid (H302.out.step hM)
        clear H302
        have H306 := Lib.hid (keep2 hM HW.out)
        clear HW
        clear hM
        obtain ⟨W6, hW6⟩ : ∃ z9, wv = z9 := ⟨_, rfl⟩
        rw [hW6] at H303 H304 H305 H306 ⊢
        clear hW6
        obtain ⟨b2, o2, ela, hyy⟩ : ∃ b2 o2, la = some (⟨b2, o2, none⟩ : Addr) ∧ W6.cell? ⟨b2, o2 + k * 4, none⟩ = some (.int .i64 (L.getD k zO).a) := by
          obtain ⟨a2, cc2, hv2, -, -, hcs2⟩ := ods_of_row rfl H303.out.row
          have ea : la = a2 := by simp at hv2; exact hv2.1
          obtain ⟨b2, o2, hx, hx2⟩ := hcs2 (by intro e; have := HKL.out; rw [e] at this; simp at this)
          exact ⟨b2, o2, ea.trans hx, (hx2 k _ (od_get HKL.out)).1⟩
        have HYY := Lib.hid hyy
        clear hyy
        subst ela
        obtain ⟨qa, hqa⟩ : ∃ z9, (L.getD k zO).a = z9 := ⟨_, rfl⟩
        obtain ⟨EE, hE2⟩ : ∃ z9, cnE V M qa = z9 := ⟨_, rfl⟩
        obtain ⟨V2, hV2⟩ : ∃ z9, rV EE (cfM qa M) = z9 := ⟨_, rfl⟩
        obtain ⟨M2, hM2⟩ : ∃ z9, rM EE (cfM qa M) = z9 := ⟨_, rfl⟩
        rw [hqa] at HYY
        have HCF := Lib.hid (fun (h9 : EE = 0) => HTR.out.conf HKL.out HBT.out (by rw [hqa, hE2]; exact h9))
        rw [hqa] at HCF
        have HE2 := Lib.hid hE2
        have HV2 := Lib.hid hV2
        have HM2 := Lib.hid hM2
        clear hE2 hV2 hM2 hqa
        have HP := Lib.hid (And.intro (row_lt H303.out.row) (And.intro H303.out.wb.2.2 H303.out.zb.2.2))
        go_upto_region 29 with fail
        go_cut [15, 16] from 107 to 119 (fun p1 p2 wc => ∃ k : Nat, p1 = .pointer (some ⟨k, 0, none⟩) ∧ p2 = .int .i64 EE ∧ W6.heap.size ≤ k ∧ BF W6.heap.size V2 M2 k wc ∧ Below W6.heap.size W6 wc)
        case first =>
          obtain ⟨lit, hlit⟩ : ∃ lit : (Nat → Value) → Act, lit = fun vs => { tmps := List.toArray (Value.int IntKind.u8 st :: Value.slice (some { block := bk, off := ok }) l.length sc :: undef :: undef :: u4 :: Value.bool true :: Value.pointer (some { block := kb, off := 0 }) :: Value.pointer (some { block := kw, off := 0 }) :: Value.slice (some { block := b2, off := o2 }) L.length lc :: Value.pointer (some { block := kl, off := 0 }) :: Value.int IntKind.i64 (i : Int) :: Value.int IntKind.i64 (yv / 8) :: u12 :: u13 :: u14 :: vs 13 :: vs 15 :: u17 :: u18 :: u19 :: Value.bool true :: Value.slice (some { block := bk, off := ok }) l.length sc :: Value.int IntKind.i64 (l.length : Int) :: Value.bool (decide ((40 : Int) < (l.length : Int))) :: undef :: Value.int IntKind.u8 st :: Value.int IntKind.i64 st :: Value.int IntKind.i64 (st % 4) :: Value.agg #[Value.slice ua0 V0.length uc0, Value.slice fa0 M0.length fc0] :: Value.int IntKind.u8 st :: Value.int IntKind.i64 st :: Value.int IntKind.i64 (st % 4) :: Value.agg #[Value.int IntKind.i64 (st % 4), Value.int IntKind.i64 0, Value.int IntKind.i64 (-1)] :: Value.agg #[Value.int IntKind.i64 (-1), Value.int IntKind.i64 0, Value.int IntKind.i64 0, Value.int IntKind.i64 0] :: Value.int IntKind.i64 (i : Int) :: Value.slice (some { block := bk, off := ok }) l.length sc :: Value.int IntKind.i64 (l.length : Int) :: Value.bool true :: u38 :: u39 :: Value.slice (some { block := bk, off := ok }) l.length sc :: Value.int IntKind.i64 (i : Int) :: Value.pointer (some { block := bk, off := ok + i }) :: Value.int IntKind.u16 yv :: Value.int IntKind.i64 yv :: Value.int IntKind.i64 (yv / 8) :: Value.slice (some { block := bk, off := ok }) l.length sc :: Value.int IntKind.i64 (i : Int) :: Value.pointer (some { block := bk, off := ok + i }) :: Value.int IntKind.u16 yv :: Value.int IntKind.u16 (yv % 8) :: Value.bool false :: Value.bool false :: Value.bool false :: u54 :: u55 :: u56 :: u57 :: u58 :: u59 :: u60 :: u61 :: u62 :: u63 :: u64 :: u65 :: u66 :: u67 :: u68 :: u69 :: u70 :: u71 :: u72 :: u73 :: u74 :: u75 :: Value.bool false :: Value.bool false :: Value.bool false :: Value.bool false :: u80 :: u81 :: u82 :: u83 :: u84 :: u85 :: u86 :: u87 :: u88 :: u89 :: u90 :: u91 :: u92 :: Value.bool true :: Value.bool false :: Value.bool true :: us8 0 :: us8 1 :: us8 2 :: us8 3 :: us8 4 :: us8 5 :: us8 6 :: us8 7 :: us8 8 :: us8 9 :: Value.bool true :: vs 10 :: vs 0 :: vs 1 :: vs 2 :: vs 3 :: vs 4 :: vs 5 :: vs 6 :: vs 7 :: vs 8 :: vs 9 :: vs 11 :: vs 12 :: u120 :: u121 :: u122 :: u123 :: u124 :: u125 :: u126 :: u127 :: u128 :: u129 :: u130 :: u131 :: u132 :: u133 :: u134 :: u135 :: u136 :: u137 :: u138 :: u139 :: u140 :: u141 :: u142 :: u143 :: u144 :: u145 :: undef :: []), defers := [] } := ⟨_, rfl⟩
          have HLIT := Lib.hid hlit
          clear hlit
          obtain ⟨val, hval⟩ : ∃ val : List Value, val = [.agg #[.slice ua V.length uc, .slice fa M.length fc], .slice (some ⟨b2, o2, none⟩) L.length lc, .int .i64 (yv / 8), .slice (some ⟨b2, o2, none⟩) L.length lc, .int .i64 (L.length : Int), .int .i64 (k : Int), .pointer (some ⟨b2, o2 + k * 4, none⟩), .pointer (some ⟨b2, o2 + k * 4, none⟩), .int .i64 qa, undef, undef, undef, .int .i64 EE, undef, undef, .int .i64 EE] := ⟨_, rfl⟩
          have E0 := Lib.hid (show val.getD 0 undef = .agg #[.slice ua V.length uc, .slice fa M.length fc] by rw [hval]; rfl)
          have E1 := Lib.hid (show val.getD 1 undef = .slice (some ⟨b2, o2, none⟩) L.length lc by rw [hval]; rfl)
          have E2 := Lib.hid (show val.getD 2 undef = .int .i64 (yv / 8) by rw [hval]; rfl)
          have E3 := Lib.hid (show val.getD 3 undef = .slice (some ⟨b2, o2, none⟩) L.length lc by rw [hval]; rfl)
          have E4 := Lib.hid (show val.getD 4 undef = .int .i64 (L.length : Int) by rw [hval]; rfl)
          have E5 := Lib.hid (show val.getD 5 undef = .int .i64 (k : Int) by rw [hval]; rfl)
          have E6 := Lib.hid (show val.getD 6 undef = .pointer (some ⟨b2, o2 + k * 4, none⟩) by rw [hval]; rfl)
          have E7 := Lib.hid (show val.getD 7 undef = .pointer (some ⟨b2, o2 + k * 4, none⟩) by rw [hval]; rfl)
          have E8 := Lib.hid (show val.getD 8 undef = .int .i64 qa by rw [hval]; rfl)
          have E12 := Lib.hid (show val.getD 12 undef = .int .i64 EE by rw [hval]; rfl)
          have E15 := Lib.hid (show val.getD 15 undef = .int .i64 EE by rw [hval]; rfl)
          clear hval
          obtain ⟨G, hG0⟩ : ∃ G : Bool → Nat → Value → World → Prop, G = (fun bq iq vq ww => (iq = 9 → QtF W6.heap.size V2 M2 EE bq vq ww) ∧ (iq = 10 → QtF W6.heap.size V2 M2 EE bq vq ww) ∧ (iq = 11 → QaF W6.heap.size V2 M2 bq vq ww) ∧ (iq = 13 → QkF W6.heap.size V2 M2 bq vq ww) ∧ (iq ≠ 9 → iq ≠ 10 → iq ≠ 11 → iq ≠ 13 → iq ≠ 14 → vq = val.getD iq undef)) := ⟨_, rfl⟩
          have HG := Lib.hid hG0
          clear hG0
          refine region_inv (NS lit 14 (fun p q => (p == 14 && q == 0) || (p == 14 && q == 1) || (p == 14 && q == 2) || (p == 14 && q == 3) || (p == 14 && q == 4) || (p == 14 && q == 5) || (p == 14 && q == 6) || (p == 14 && q == 7) || (p == 14 && q == 8) || (p == 14 && q == 9) || (p == 14 && q == 10) || (p == 14 && q == 11) || (p == 14 && q == 13)) G fun bq wv => (bq = false → Below W6.heap.size W6 wv) ∧ (bq = true → Below W6.heap.size W6 wv)) (by kernel_rfl) (by decide +kernel) ?_ ?_ ?_
          · exact NS.start (fun i => ([u108, u109, u110, u111, u112, u113, u114, u115, u116, u117, u107, u118, u119, u15, undef, u16] : List Value).getD i undef) (by rw [HLIT.out]; rfl) ⟨fun _ => below_drew _ _, fun h => (by cases h)⟩
          · refine ⟨?_, ?_, ?_, ?_, ?_, ?_, ?_, ?_, ?_, ?_, ?_, ?_, ?_, ?_, ?_, ?_, trivial⟩
            · intro bf ac wv hfb haf hJ K' hK
              obtain ⟨vs, rfl, ja, hB, j4⟩ := hJ
              replace hK := Lib.hid hK
              rw [HG.out] at j4
              replace j4 := Lib.hid (And.intro ja j4)
              replace hB := Lib.hid hB
              clear ja haf
              have hMM : Below W6.heap.size W6 wv := by
                cases hbb : bf 14 with
                | false => exact hB.out.1 hbb
                | true => exact hB.out.2 hbb
              have xx := (cs_of_box H304.out).step hMM
              have xx0 := xx.c 0 rfl
              have xx1 := xx.c 1 rfl
              have xxz := xx.2.2
              clear xx
              rw [HLIT.out]
              go_simp
              exact hK.out _ _ (NS.next (wv := wv) (vs := vs) 0 (by omega) (fun q h => absurd h (by simp)) (x := .agg #[.slice ua V.length uc, .slice fa M.length fc]) (by rw [HLIT.out]; rfl) (by rw [HG.out]; exact j4.out) hB.out (by rw [HG.out]; exact fun _ _ h => h) (by rw [HG.out]; exact ⟨fun h => absurd h (by decide), fun h => absurd h (by decide), fun h => absurd h (by decide), fun h => absurd h (by decide), fun _ _ _ _ _ => E0.out.symm⟩))
            · intro bf ac wv hfb haf hJ K' hK
              obtain ⟨vs, rfl, ja, hB, j4⟩ := hJ
              replace hK := Lib.hid hK
              rw [HG.out] at j4
              replace j4 := Lib.hid (And.intro ja j4)
              replace hB := Lib.hid hB
              clear ja haf
              rw [HLIT.out]
              go_simp
              exact hK.out _ _ (NS.next (wv := wv) (vs := vs) 1 (by omega) (fun q h => absurd h (by simp)) (x := .slice (some ⟨b2, o2, none⟩) L.length lc) (by rw [HLIT.out]; rfl) (by rw [HG.out]; exact j4.out) hB.out (by rw [HG.out]; exact fun _ _ h => h) (by rw [HG.out]; exact ⟨fun h => absurd h (by decide), fun h => absurd h (by decide), fun h => absurd h (by decide), fun h => absurd h (by decide), fun _ _ _ _ _ => E1.out.symm⟩))
            · intro bf ac wv hfb haf hJ K' hK
              obtain ⟨vs, rfl, ja, hB, j4⟩ := hJ
              replace hK := Lib.hid hK
              rw [HG.out] at j4
              replace j4 := Lib.hid (And.intro ja j4)
              replace hB := Lib.hid hB
              clear ja haf
              rw [HLIT.out]
              go_simp
              exact hK.out _ _ (NS.next (wv := wv) (vs := vs) 2 (by omega) (fun q h => absurd h (by simp)) (x := .int .i64 (yv / 8)) (by rw [HLIT.out]; rfl) (by rw [HG.out]; exact j4.out) hB.out (by rw [HG.out]; exact fun _ _ h => h) (by rw [HG.out]; exact ⟨fun h => absurd h (by decide), fun h => absurd h (by decide), fun h => absurd h (by decide), fun h => absurd h (by decide), fun _ _ _ _ _ => E2.out.symm⟩))
            · intro bf ac wv hfb haf hJ K' hK
              obtain ⟨vs, rfl, ja, hB, j4⟩ := hJ
              replace hK := Lib.hid hK
              rw [HG.out] at j4
              replace j4 := Lib.hid (And.intro ja j4)
              replace hB := Lib.hid hB
              clear ja haf
              rw [HLIT.out]
              go_simp
              exact hK.out _ _ (NS.next (wv := wv) (vs := vs) 3 (by omega) (fun q h => absurd h (by simp)) (x := .slice (some ⟨b2, o2, none⟩) L.length lc) (by rw [HLIT.out]; rfl) (by rw [HG.out]; exact j4.out) hB.out (by rw [HG.out]; exact fun _ _ h => h) (by rw [HG.out]; exact ⟨fun h => absurd h (by decide), fun h => absurd h (by decide), fun h => absurd h (by decide), fun h => absurd h (by decide), fun _ _ _ _ _ => E3.out.symm⟩))
            · intro bf ac wv hfb haf hJ K' hK
              obtain ⟨vs, rfl, ja, hB, j4⟩ := hJ
              replace hK := Lib.hid hK
              simp [Region.binds] at haf
              rw [HG.out] at j4
              have e3 := ((j4 3 (by simp [haf])).2.2.2.2 (by decide) (by decide) (by decide) (by decide) (by decide)).trans E3.out
              replace j4 := Lib.hid (And.intro ja j4)
              replace hB := Lib.hid hB
              clear ja haf
              rw [HLIT.out]
              go_simp
              exact hK.out _ _ (NS.next (wv := wv) (vs := vs) 4 (by omega) (fun q h => absurd h (by simp)) (x := .int .i64 (L.length : Int)) (by rw [HLIT.out]; simp only [upv, e3, Nat.reduceBEq, cond_true, cond_false]) (by rw [HG.out]; exact j4.out) hB.out (by rw [HG.out]; exact fun _ _ h => h) (by rw [HG.out]; exact ⟨fun h => absurd h (by decide), fun h => absurd h (by decide), fun h => absurd h (by decide), fun h => absurd h (by decide), fun _ _ _ _ _ => E4.out.symm⟩))
            · intro bf ac wv hfb haf hJ K' hK
              obtain ⟨vs, rfl, ja, hB, j4⟩ := hJ
              replace hK := Lib.hid hK
              simp [Region.binds] at haf
              rw [HG.out] at j4
              have e2 := ((j4 2 (by simp [haf])).2.2.2.2 (by decide) (by decide) (by decide) (by decide) (by decide)).trans E2.out
              have e4 := ((j4 4 (by simp [haf])).2.2.2.2 (by decide) (by decide) (by decide) (by decide) (by decide)).trans E4.out
              replace j4 := Lib.hid (And.intro ja j4)
              replace hB := Lib.hid hB
              clear ja haf
              have hkm := HKM.out
              have hkt := HKT.out
              obtain ⟨g3, g4, g5⟩ := HG3.out
              have hn1 := HN8.out.1
              rw [HLIT.out]
              go_simp
              exact hK.out _ _ (NS.next (wv := wv) (vs := vs) 5 (by omega) (fun q h => absurd h (by simp)) (x := .int .i64 (k : Int)) (by rw [HLIT.out]; simp only [upv, e2, e4, Nat.reduceBEq, cond_true, cond_false]) (by rw [HG.out]; exact j4.out) hB.out (by rw [HG.out]; exact fun _ _ h => h) (by rw [HG.out]; exact ⟨fun h => absurd h (by decide), fun h => absurd h (by decide), fun h => absurd h (by decide), fun h => absurd h (by decide), fun _ _ _ _ _ => E5.out.symm⟩))
            · intro bf ac wv hfb haf hJ K' hK
              obtain ⟨vs, rfl, ja, hB, j4⟩ := hJ
              replace hK := Lib.hid hK
              simp [Region.binds] at haf
              rw [HG.out] at j4
              have e1 := ((j4 1 (by simp [haf])).2.2.2.2 (by decide) (by decide) (by decide) (by decide) (by decide)).trans E1.out
              have e5 := ((j4 5 (by simp [haf])).2.2.2.2 (by decide) (by decide) (by decide) (by decide) (by decide)).trans E5.out
              replace j4 := Lib.hid (And.intro ja j4)
              replace hB := Lib.hid hB
              clear ja haf
              have hkl : (k : Int) < (L.length : Int) := by have := HKL.out; omega
              rw [HLIT.out]
              go_simp
              exact hK.out _ _ (NS.next (wv := wv) (vs := vs) 6 (by omega) (fun q h => absurd h (by simp)) (x := .pointer (some ⟨b2, o2 + k * 4, none⟩)) (by rw [HLIT.out]; simp only [upv, e1, e5, Nat.reduceBEq, cond_true, cond_false]) (by rw [HG.out]; exact j4.out) hB.out (by rw [HG.out]; exact fun _ _ h => h) (by rw [HG.out]; exact ⟨fun h => absurd h (by decide), fun h => absurd h (by decide), fun h => absurd h (by decide), fun h => absurd h (by decide), fun _ _ _ _ _ => E6.out.symm⟩))
            · intro bf ac wv hfb haf hJ K' hK
              obtain ⟨vs, rfl, ja, hB, j4⟩ := hJ
              replace hK := Lib.hid hK
              simp [Region.binds] at haf
              rw [HG.out] at j4
              have e6 := ((j4 6 (by simp [haf])).2.2.2.2 (by decide) (by decide) (by decide) (by decide) (by decide)).trans E6.out
              replace j4 := Lib.hid (And.intro ja j4)
              replace hB := Lib.hid hB
              clear ja haf
              rw [HLIT.out]
              go_simp
              exact hK.out _ _ (NS.next (wv := wv) (vs := vs) 7 (by omega) (fun q h => absurd h (by simp)) (x := .pointer (some ⟨b2, o2 + k * 4, none⟩)) (by rw [HLIT.out]; simp only [upv, e6, Nat.reduceBEq, cond_true, cond_false]) (by rw [HG.out]; exact j4.out) hB.out (by rw [HG.out]; exact fun _ _ h => h) (by rw [HG.out]; exact ⟨fun h => absurd h (by decide), fun h => absurd h (by decide), fun h => absurd h (by decide), fun h => absurd h (by decide), fun _ _ _ _ _ => E7.out.symm⟩))
            · intro bf ac wv hfb haf hJ K' hK
              obtain ⟨vs, rfl, ja, hB, j4⟩ := hJ
              replace hK := Lib.hid hK
              simp [Region.binds] at haf
              rw [HG.out] at j4
              have e7 := ((j4 7 (by simp [haf])).2.2.2.2 (by decide) (by decide) (by decide) (by decide) (by decide)).trans E7.out
              replace j4 := Lib.hid (And.intro ja j4)
              replace hB := Lib.hid hB
              clear ja haf
              have hMM : Below W6.heap.size W6 wv := by
                cases hbb : bf 14 with
                | false => exact hB.out.1 hbb
                | true => exact hB.out.2 hbb
              have yA := keep1 hMM HYY.out
              have yAz := World.block_lt_of_cell? _ _ yA
              rw [HLIT.out]
              go_simp
              exact hK.out _ _ (NS.next (wv := wv) (vs := vs) 8 (by omega) (fun q h => absurd h (by simp)) (x := .int .i64 qa) (by rw [HLIT.out]; simp only [upv, e7, Nat.reduceBEq, cond_true, cond_false]) (by rw [HG.out]; exact j4.out) hB.out (by rw [HG.out]; exact fun _ _ h => h) (by rw [HG.out]; exact ⟨fun h => absurd h (by decide), fun h => absurd h (by decide), fun h => absurd h (by decide), fun h => absurd h (by decide), fun _ _ _ _ _ => E8.out.symm⟩))
            · intro bf ac wv hfb haf hJ K' hK
              obtain ⟨vs, rfl, ja, hB, j4⟩ := hJ
              replace hK := Lib.hid hK
              simp [Region.binds] at haf
              rw [HG.out] at j4
              have e0 := ((j4 0 (by simp [haf])).2.2.2.2 (by decide) (by decide) (by decide) (by decide) (by decide)).trans E0.out
              have e8 := ((j4 8 (by simp [haf])).2.2.2.2 (by decide) (by decide) (by decide) (by decide) (by decide)).trans E8.out
              have hd : bf 14 = false := by
                cases h : bf 14
                · rfl
                · exact absurd ((ja 14 9 rfl h).symm.trans hfb) (by simp)
              have hM := Lib.hid (hB.1 hd)
              replace j4 := Lib.hid (And.intro ja j4)
              replace hB := Lib.hid hB
              clear ja haf
              rw [HLIT.out]
              go_simp
              go_at_call 13
              refine (confirmed_g qa HE2.out HV2.out HM2.out ua uc fa fc _ (H305.out.step hM.out) HTR.out.lens.1 HTR.out.lens.2).mono ?_
              rintro e w4 ⟨uar, ucr, far, fcr, rfl, b4, hr⟩
              exact hK.out _ _ (NS.next (wv := wv) (vs := vs) 9 (by omega) (fun q h => absurd h (by simp)) (x := (.tuple #[.agg #[.slice uar V2.length ucr, .slice far M2.length fcr], .int .i64 EE])) (by rw [HLIT.out]; simp only [upv, e0, e8, Nat.reduceBEq, cond_true, cond_false]) (by rw [HG.out]; exact j4.out) ⟨fun _ => keep2 b4 hM.out, fun e => absurd (e.symm.trans hd) (by simp)⟩ (by rw [HG.out]; exact fun k hbk h => ⟨fun q => (h.1 q).step b4, fun q => (h.2.1 q).step b4, fun q => (h.2.2.1 q).step b4, fun q => (h.2.2.2.1 q).step b4, h.2.2.2.2⟩) (by rw [HG.out]; exact ⟨fun _ => ⟨uar, ucr, far, fcr, rfl, fun _ => hr.le hM.out.size⟩, fun h => absurd h (by decide), fun h => absurd h (by decide), fun h => absurd h (by decide), fun h9 => absurd rfl h9⟩))
            · intro bf ac wv hfb haf hJ K' hK
              obtain ⟨vs, rfl, ja, hB, j4⟩ := hJ
              replace hK := Lib.hid hK
              simp [Region.binds] at haf
              rw [HG.out] at j4
              have e9 := (j4 9 (by simp [haf])).1 rfl
              replace j4 := Lib.hid (And.intro ja j4)
              replace hB := Lib.hid hB
              clear ja haf
              obtain ⟨uar, ucr, far, fcr, e9, hr⟩ := e9
              rw [HLIT.out]
              go_simp
              exact hK.out _ _ (NS.next (wv := wv) (vs := vs) 10 (by omega) (fun q h => absurd h (by simp)) (x := (.tuple #[.agg #[.slice uar V2.length ucr, .slice far M2.length fcr], .int .i64 EE])) (by rw [HLIT.out]; simp only [upv, e9, Nat.reduceBEq, cond_true, cond_false]) (by rw [HG.out]; exact j4.out) hB.out (by rw [HG.out]; exact fun _ _ h => h) (by rw [HG.out]; exact ⟨fun h => absurd h (by decide), fun _ => ⟨uar, ucr, far, fcr, rfl, hr⟩, fun h => absurd h (by decide), fun h => absurd h (by decide), fun h9 h10 => absurd rfl h10⟩))
            · intro bf ac wv hfb haf hJ K' hK
              obtain ⟨vs, rfl, ja, hB, j4⟩ := hJ
              replace hK := Lib.hid hK
              simp [Region.binds] at haf
              rw [HG.out] at j4
              have e10 := (j4 10 (by simp [haf])).2.1 rfl
              replace j4 := Lib.hid (And.intro ja j4)
              replace hB := Lib.hid hB
              clear ja haf
              obtain ⟨uar, ucr, far, fcr, e10, hr⟩ := e10
              rw [HLIT.out]
              go_simp
              exact hK.out _ _ (NS.next (wv := wv) (vs := vs) 11 (by omega) (fun q h => absurd h (by simp)) (x := (.agg #[.slice uar V2.length ucr, .slice far M2.length fcr])) (by rw [HLIT.out]; simp only [upv, e10, Nat.reduceBEq, cond_true, cond_false]) (by rw [HG.out]; exact j4.out) hB.out (by rw [HG.out]; exact fun _ _ h => h) (by rw [HG.out]; exact ⟨fun h => absurd h (by decide), fun h => absurd h (by decide), fun _ => ⟨uar, ucr, far, fcr, rfl, hr⟩, fun h => absurd h (by decide), fun h9 h10 h11 => absurd rfl h11⟩))
            · intro bf ac wv hfb haf hJ K' hK
              obtain ⟨vs, rfl, ja, hB, j4⟩ := hJ
              replace hK := Lib.hid hK
              simp [Region.binds] at haf
              rw [HG.out] at j4
              have e10 := (j4 10 (by simp [haf])).2.1 rfl
              replace j4 := Lib.hid (And.intro ja j4)
              replace hB := Lib.hid hB
              clear ja haf
              obtain ⟨uar, ucr, far, fcr, e10, hr⟩ := e10
              rw [HLIT.out]
              go_simp
              exact hK.out _ _ (NS.next (wv := wv) (vs := vs) 12 (by omega) (fun q h => absurd h (by simp)) (x := .int .i64 EE) (by rw [HLIT.out]; simp only [upv, e10, Nat.reduceBEq, cond_true, cond_false]) (by rw [HG.out]; exact j4.out) hB.out (by rw [HG.out]; exact fun _ _ h => h) (by rw [HG.out]; exact ⟨fun h => absurd h (by decide), fun h => absurd h (by decide), fun h => absurd h (by decide), fun h => absurd h (by decide), fun _ _ _ _ _ => E12.out.symm⟩))
            · intro bf ac wv hfb haf hJ K' hK
              obtain ⟨vs, rfl, ja, hB, j4⟩ := hJ
              replace hK := Lib.hid hK
              rw [HG.out] at j4
              have hd : bf 14 = false := by
                cases h : bf 14
                · rfl
                · exact absurd ((ja 14 13 rfl h).symm.trans hfb) (by simp)
              have hM := Lib.hid (hB.1 hd)
              replace j4 := Lib.hid (And.intro ja j4)
              replace hB := Lib.hid hB
              clear ja haf
              rw [HLIT.out]
              go_simp
              have b4 := al wv (.cells ZB 25)
              exact hK.out _ _ (NS.next (wv := wv) (vs := vs) 13 (by omega) (fun q h => absurd h (by simp)) (x := (.pointer (some ⟨wv.heap.size, 0, none⟩))) (by rw [HLIT.out]; rfl) (by rw [HG.out]; exact j4.out) ⟨fun _ => keep2 b4 hM.out, fun e => absurd (e.symm.trans hd) (by simp)⟩ (by rw [HG.out]; exact fun k hbk h => ⟨fun q => (h.1 q).step b4, fun q => (h.2.1 q).step b4, fun q => (h.2.2.1 q).step b4, fun q => (h.2.2.2.1 q).step b4, h.2.2.2.2⟩) (by rw [HG.out]; exact ⟨fun h => absurd h (by decide), fun h => absurd h (by decide), fun h => absurd h (by decide), fun _ => ⟨wv.heap.size, rfl, hM.out.size, fun _ => BoxN.new wv ZB 25, fun e => absurd (e.symm.trans hd) (by simp)⟩, fun h9 h10 h11 h13 => absurd rfl h13⟩))
            · intro bf ac wv hfb haf hJ K' hK
              obtain ⟨vs, rfl, ja, hB, j4⟩ := hJ
              replace hK := Lib.hid hK
              simp [Region.binds] at haf
              rw [HG.out] at j4
              have e11 := (j4 11 (by simp [haf])).2.2.1 rfl
              have e13 := (j4 13 (by simp [haf])).2.2.2.1 rfl
              rw [hfb] at j4 hB
              try rw [hfb] at e11
              try rw [hfb] at e13
              have HA := Lib.hid (show ∀ q, (fun p q => (p == 14 && q == 0) || (p == 14 && q == 1) || (p == 14 && q == 2) || (p == 14 && q == 3) || (p == 14 && q == 4) || (p == 14 && q == 5) || (p == 14 && q == 6) || (p == 14 && q == 7) || (p == 14 && q == 8) || (p == 14 && q == 9) || (p == 14 && q == 10) || (p == 14 && q == 11) || (p == 14 && q == 13)) 14 q = true → bf q = true from fun q hi => by
                obtain rfl | rfl | rfl | rfl | rfl | rfl | rfl | rfl | rfl | rfl | rfl | rfl | rfl : q = 0 ∨ q = 1 ∨ q = 2 ∨ q = 3 ∨ q = 4 ∨ q = 5 ∨ q = 6 ∨ q = 7 ∨ q = 8 ∨ q = 9 ∨ q = 10 ∨ q = 11 ∨ q = 13 := by simpa [or_assoc] using hi
                all_goals simp [haf])
              have hM := Lib.hid (hB.1 rfl)
              replace j4 := Lib.hid j4
              have HE := Lib.hid (And.intro ja HA.out)
              clear ja haf hB HA
              obtain ⟨k, e13, hk, hz, -⟩ := e13
              replace hz := hz rfl
              obtain ⟨uar, ucr, far, fcr, e11, hr⟩ := e11
              replace hr := Lib.hid (hr rfl)
              replace hk := Lib.hid hk
              have HZ := Lib.hid hz
              have HZC := Lib.hid (cs_of_box hz)
              have x0 := HZC.out.c 0 rfl
              have y0 := HZC.out.f 0 (by simp [ZB])
              have x1 := HZC.out.c 1 rfl
              have y1 := HZC.out.f 1 (by simp [ZB])
              have xz := HZC.out.2.2
              clear hz
              rw [HLIT.out]
              go_simp
              have p1 := BF.of_put HZ.out hr.out
              have p3 : Below W6.heap.size wv (putB wv k (.slice uar V2.length ucr) (.slice far M2.length fcr)) := putB_below _ _ hk.out
              exact hK.out _ _ (NS.put (vs := vs) (w' := putB wv k (.slice uar V2.length ucr) (.slice far M2.length fcr)) (by rw [HLIT.out]; simp only [e13, e11]) HE.out ⟨fun e => (by cases e), fun _ => hM.out.trans p3⟩ (fun j hj hb => by
                rw [HG.out]
                have q := j4.out j hb
                exact ⟨fun h => (q.1 h).put _, fun h => (q.2.1 h).put _, fun h => (q.2.2.1 h).put _, fun h => by
                  subst h
                  exact ⟨k, e13, hk.out, fun e => (by cases e), fun _ => p1⟩, q.2.2.2.2⟩) (fun v => by rw [HG.out]; exact ⟨fun h => absurd h (by decide), fun h => absurd h (by decide), fun h => absurd h (by decide), fun h => absurd h (by decide), fun h9 h10 h11 h13 h14 => absurd rfl h14⟩))
            · intro bf ac wv hfb haf hJ K' hK
              obtain ⟨vs, rfl, ja, hB, j4⟩ := hJ
              replace hK := Lib.hid hK
              simp [Region.binds] at haf
              rw [HG.out] at j4
              have e12 := ((j4 12 (by simp [haf])).2.2.2.2 (by decide) (by decide) (by decide) (by decide) (by decide)).trans E12.out
              replace j4 := Lib.hid (And.intro ja j4)
              replace hB := Lib.hid hB
              clear ja haf
              rw [HLIT.out]
              go_simp
              exact hK.out _ _ (NS.next (wv := wv) (vs := vs) 15 (by omega) (fun q h => absurd h (by simp)) (x := .int .i64 EE) (by rw [HLIT.out]; simp only [upv, e12, Nat.reduceBEq, cond_true, cond_false]) (by rw [HG.out]; exact j4.out) hB.out (by rw [HG.out]; exact fun _ _ h => h) (by rw [HG.out]; exact ⟨fun h => absurd h (by decide), fun h => absurd h (by decide), fun h => absurd h (by decide), fun h => absurd h (by decide), fun _ _ _ _ _ => E15.out.symm⟩))
          · intro bf ac wv hall hJ
            obtain ⟨vs, rfl, -, hB, j4⟩ := hJ
            rw [HG.out] at j4
            rw [hall 14 (by decide)] at hB j4
            have hM := Lib.hid (hB.2 rfl)
            clear hB
            obtain ⟨k, e13, hk, -, hp⟩ := (j4 13 (hall 13 (by decide))).2.2.2.1 rfl
            have hbb := hp rfl
            have eer := ((j4 15 (hall 15 (by decide))).2.2.2.2 (by decide) (by decide) (by decide) (by decide) (by decide)).trans E15.out
            clear j4 hall
            rw [HLIT.out]
            dsimp only
            rw [e13, eer]
            clear e13 eer hp
            go_wp2
            go_meet
            exact ⟨k, rfl, rfl, hk, hbb, hM.out⟩
        case rest =>
          obtain ⟨kx, rfl, rfl, hkx, hbf, b9⟩ := hcut
          obtain ⟨ua2, uc2, fa2, fc2, hbx, hrf⟩ := hbf
          have HFA := Lib.hid (far_fresh hrf.2.1 HP.out.1 HP.out.2.1 HP.out.2.2)
          have HFB := Lib.hid (far_fresh hrf.2.2 HP.out.1 HP.out.2.1 HP.out.2.2)
          have H307 := Lib.hid (H303.out.step b9)
          clear H303
          have H308 := Lib.hid (H304.out.step b9)
          clear H304
          have H309 := Lib.hid (H305.out.step b9)
          clear H305
          have H310 := Lib.hid (keep2 b9 H306.out)
          clear H306
          clear b9 hkx
          have H311 := Lib.hid (hbx)
          have H312 := Lib.hid (hrf.1)
          clear hbx hrf
          obtain ⟨W7, hW7⟩ : ∃ z9, wc = z9 := ⟨_, rfl⟩
          rw [hW7] at H307 H308 H309 H311 H312 H310 ⊢
          clear hW7
          by_cases hz : EE = 0
          rotate_left
          · skip
            have g3 : (EE == 0) = false := by simpa using hz
            have HCAN := Lib.hid (HTR.out.tr.can)
            have HLV := Lib.hid HTR.out.lens.2
            have xX0 := (cs_of_box H308.out).c 0 rfl
            have xX1 := (cs_of_box H308.out).c 1 rfl
            have xXz := (cs_of_box H308.out).2.2
            have xW0 := H307.out.wb.c 0 rfl
            have xWz := H307.out.wb.2.2
            go_wp2_with fail
            refine (can_r _ _ V v true HCAN.out _ H309.out.1 HLV.out).mono ?_
            rintro e u31 ⟨rfl, b31⟩
            clear xX0 xX1 xXz xW0 xWz
            have H313 := Lib.hid (H307.out.step b31)
            clear H307
            have H314 := Lib.hid (H308.out.step b31)
            clear H308
            have H315 := Lib.hid (H309.out.step b31)
            clear H309
            have H316 := Lib.hid (H311.out.step b31)
            clear H311
            have H317 := Lib.hid (H312.out.step b31)
            clear H312
            have H318 := Lib.hid (keep2 b31 H310.out)
            clear H310
            clear b31
            have t9 : i ≤ 1000 := by have h1 := HIL.out; have h2 := H9.out; omega
            go_wp2
            go_roundw
            case rel => exact ⟨i + 1, (some ⟨b2, o2, none⟩), lc, L, v, D, c, z, V, M, HIL.out, (by first | rfl | go_num), rfl, HTR, H313, H318⟩
            case measure => exact meas_any HIL.out H9.out
          have HTR2 := Lib.hid (HCF.out hz)
          subst hz
          rw [HV2.out, HM2.out] at HTR2
          have z20 := (cs_of_box H311.out).c 0 rfl
          have z21 := (cs_of_box H311.out).c 1 rfl
          have z2z := (cs_of_box H311.out).2.2
          have xX0 := (cs_of_box H308.out).c 0 rfl
          have xX1 := (cs_of_box H308.out).c 1 rfl
          have xXz := (cs_of_box H308.out).2.2
          have yX0 := (cs_of_box H308.out).f 0 (by simp)
          have yX1 := (cs_of_box H308.out).f 1 (by simp)
          have xW0 := H307.out.wb.c 0 rfl
          have xWz := H307.out.wb.2.2
          obtain ⟨n1, n2⟩ : ¬ kb = kw ∧ ¬ kw = kb := ⟨H307.out.k2.1, Ne.symm H307.out.k2.1⟩
          have HCAN := Lib.hid (HTR2.out.tr.can)
          have HLV := Lib.hid HTR2.out.lens.2
          have ht := H307.out.putB H312.out (fun _ => HFA.out) (fun _ => HFB.out)
          have hb := H310.out.trans (putB_below (w := W7) (.slice ua2 V2.length uc2) (.slice fa2 M2.length fc2) HLO.out.1)
          have hri := H312.out.kept (putB_chg W7 kb (.slice ua2 V2.length uc2) (.slice fa2 M2.length fc2)) (sl_of H308.out)
          replace ht := Lib.hid ht
          replace hb := Lib.hid hb
          replace hri := Lib.hid hri
          go_wp2_with fail
          refine (fun (q9 : Calls Try.prog 20 #[.agg #[.slice ua2 V2.length uc2, .slice fa2 M2.length fc2], .int .i64 v] (putB W7 kb (.slice ua2 V2.length uc2) (.slice fa2 M2.length fc2)) _) => q9) ?_
          obtain ⟨W9, hW9⟩ : ∃ z9, (putB W7 kb (.slice ua2 V2.length uc2) (.slice fa2 M2.length fc2)) = z9 := ⟨_, rfl⟩
          rw [hW9] at ht hb hri ⊢
          refine (can_r _ _ V2 v true HCAN.out _ hri.out.1 HLV.out).mono ?_
          rintro e w10 ⟨rfl, b10⟩
          have HT10 := Lib.hid (ht.out.step b10)
          have HB10 := Lib.hid (keep2 b10 hb.out)
          clear b10 hW9 n1 n2 z20 z21 z2z xX0 xX1 xXz yX0 yX1 xW0 xWz
          have t9 : i ≤ 1000 := by have h1 := HIL.out; have h2 := H9.out; omega
          go_wp2
          go_roundw
          case rel => exact ⟨i + 1, (some ⟨b2, o2, none⟩), lc, L, v, D, c, z, V2, M2, HIL.out, (by first | rfl | go_num), rfl, HTR2, HT10, HB10⟩
          case measure => exact meas_any HIL.out H9.out
    · skip
      obtain ⟨ua, uc, fa, fc, hx9, hr9, hf8, hf9⟩ := HT.out.bb
      have H301 := Lib.hid (hx9)
      have H302 := Lib.hid (hr9)
      clear hx9 hr9 hf8 hf9
      have xW0 := HT.out.wb.c 0 rfl
      have xW1 := HT.out.wb.c 1 rfl
      have xW2 := HT.out.wb.c 2 rfl
      have xWz := HT.out.wb.2.2
      go_wp2_with fail
      refine (top_any (.slice la L.length lc) _ L D c HTR.out.bit HTR.out.tr.len _ (ods_of_row rfl HT.out.row)).mono ?_
      rintro e u31 ⟨rfl, b31⟩
      clear xW0 xW1 xW2 xWz
      have H303 := Lib.hid (HT.out.step b31)
      clear HT
      have H304 := Lib.hid (H301.out.step b31)
      clear H301
      have H305 := Lib.hid (H302.out.step b31)
      clear H302
      have H306 := Lib.hid (keep2 b31 HW.out)
      clear HW
      clear b31
      obtain ⟨hre, hrt⟩ := HTR.out.rep
      obtain ⟨T, hT⟩ : ∃ z9, tpf D L c L.length = z9 := ⟨_, rfl⟩
      rw [hT] at hre hrt ⊢
      obtain ⟨V2, hV2⟩ : ∃ z9, rV 0 (rpM M v T) = z9 := ⟨_, rfl⟩
      obtain ⟨M2, hM2⟩ : ∃ z9, rM 0 (rpM M v T) = z9 := ⟨_, rfl⟩
      rw [hV2, hM2] at hrt
      have HRE := Lib.hid hre
      have HTR2 := Lib.hid hrt
      have HV2 := Lib.hid hV2
      have HM2 := Lib.hid hM2
      clear hre hrt hV2 hM2 hT
      have HP := Lib.hid (And.intro (row_lt H303.out.row) (And.intro H303.out.wb.2.2 H303.out.zb.2.2))
      have xX0 := (cs_of_box H304.out).c 0 rfl
      have xX1 := (cs_of_box H304.out).c 1 rfl
      have xXz := (cs_of_box H304.out).2.2
      have xW0 := H303.out.wb.c 0 rfl
      have xWz := H303.out.wb.2.2
      go_wp2_with fail
      refine (reported_f v T HRE.out HV2.out HM2.out ua uc fa fc _ H305.out HTR.out.lens.1 HTR.out.lens.2).mono ?_
      rintro e u32 ⟨ua2, uc2, fa2, fc2, rfl, b32, hr2, hf2, hf3⟩
      clear xX0 xX1 xXz xW0 xWz
      have H307 := Lib.hid (H303.out.step b32)
      clear H303
      have H308 := Lib.hid (H304.out.step b32)
      clear H304
      have H309 := Lib.hid (H305.out.step b32)
      clear H305
      have H310 := Lib.hid (keep2 b32 H306.out)
      clear H306
      clear b32
      have HFA := Lib.hid (far_fresh hf2 HP.out.1 HP.out.2.1 HP.out.2.2)
      have HFB := Lib.hid (far_fresh hf3 HP.out.1 HP.out.2.1 HP.out.2.2)
      clear hf2 hf3
      have H311 := Lib.hid (hr2)
      clear hr2
      have H312 := Lib.hid (H307.out.step (al u32 (.cells #[.slice ua2 V2.length uc2, .slice fa2 M2.length fc2] 25)))
      clear H307
      have H313 := Lib.hid (H308.out.step (al u32 (.cells #[.slice ua2 V2.length uc2, .slice fa2 M2.length fc2] 25)))
      clear H308
      have H314 := Lib.hid (H309.out.step (al u32 (.cells #[.slice ua2 V2.length uc2, .slice fa2 M2.length fc2] 25)))
      clear H309
      have H315 := Lib.hid (H311.out.step (al u32 (.cells #[.slice ua2 V2.length uc2, .slice fa2 M2.length fc2] 25)))
      clear H311
      have H316 := Lib.hid (keep2 (al u32 (.cells #[.slice ua2 V2.length uc2, .slice fa2 M2.length fc2] 25)) H310.out)
      clear H310
      have H317 := Lib.hid (Cs.new u32 (u32.heap.size) #[.slice ua2 V2.length uc2, .slice fa2 M2.length fc2] 25 (by simp))
      obtain ⟨W5, hW5⟩ : ∃ z9, (u32.alloc (.cells #[.slice ua2 V2.length uc2, .slice fa2 M2.length fc2] 25)) = z9 := ⟨_, rfl⟩
      have HW5 := Lib.hid hW5
      rw [hW5] at H312 H313 H314 H315 H317 H316
      clear hW5
      go_upto_region 37 with fail
      rw [HW5.out]
      have x20 : W5.cell? ⟨(u32.heap.size), 0, none⟩ = some (.slice ua2 V2.length uc2) := H317.out.c 0 rfl
      have x21 : W5.cell? ⟨(u32.heap.size), 1, none⟩ = some (.slice fa2 M2.length fc2) := H317.out.c 1 rfl
      have z2 : (u32.heap.size) < W5.heap.size := H317.out.2.2
      have xX0 := (cs_of_box H313.out).c 0 rfl
      have xX1 := (cs_of_box H313.out).c 1 rfl
      have xXz := (cs_of_box H313.out).2.2
      have yX0 := (cs_of_box H313.out).f 0 (by simp)
      have yX1 := (cs_of_box H313.out).f 1 (by simp)
      have xW0 := H312.out.wb.c 0 rfl
      have xW2 := H312.out.wb.c 2 rfl
      have xWz := H312.out.wb.2.2
      have yW0 := H312.out.wb.f 0 (by simp)
      have yW2 := H312.out.wb.f 2 (by simp)
      obtain ⟨n1, n2⟩ : ¬ kb = kw ∧ ¬ kw = kb := ⟨H312.out.k2.1, Ne.symm H312.out.k2.1⟩
      go_upto_region 38 with fail
      have ht := H312.out.putB H315.out (fun _ => HFA.out) (fun _ => HFB.out)
      have hb := H316.out.trans (putB_below (w := W5) (.slice ua2 V2.length uc2) (.slice fa2 M2.length fc2) HLO.out.1)
      change Code.wp _ _ _ _ (putB W5 kb (.slice ua2 V2.length uc2) (.slice fa2 M2.length fc2))
      obtain ⟨W6, hW6⟩ : ∃ z9, (putB W5 kb (.slice ua2 V2.length uc2) (.slice fa2 M2.length fc2)) = z9 := ⟨_, rfl⟩
      rw [hW6] at ht hb ⊢
      have HT6 := Lib.hid ht
      have HB6 := Lib.hid hb
      clear ht hb hW6 n1 n2
      clear x20 x21 z2 xX0 xX1 xXz yX0 yX1 xW0 xW2 xWz yW0 yW2
      have w0 := HT6.out.wb.c 0 rfl
      have w2 := HT6.out.wb.c 2 rfl
      have wz := HT6.out.wb.2.2
      have f2 := HT6.out.wb.f 2 (by simp)
      have hcs := Cs.set HT6.out.wb 2 (by simp) (.int .i64 T) (vs' := #[.int .i64 v, .int .i64 (D : Int), .int .i64 T]) rfl
      have hcg := (Chg.of (k := kw) (Below.refl _ W6)).set 2 (.int .i64 T)
      have ht := HT6.out.setW hcg hcs
      have hb := HB6.out.trans (hcg.below HLO.out.2.1 HB6.out.size)
      replace ht := Lib.hid ht
      replace hb := Lib.hid hb
      clear hcs hcg
      go_upto_region 39 with fail
      obtain ⟨W7, hW7⟩ : ∃ z9, W6.setCell ⟨kw, 2, none⟩ (.int .i64 T) = z9 := ⟨_, rfl⟩
      rw [hW7] at ht hb ⊢
      clear hW7 w0 w2 wz f2
      obtain ⟨ua7, uc7, fa7, fc7, hx9, hr9, hf8, hf9⟩ := ht.out.bb
      have HX7 := Lib.hid hx9
      have HR7 := Lib.hid hr9
      clear hx9 hr9 hf8 hf9
      have HCAN := Lib.hid (HTR2.out.tr.can)
      have HLV := Lib.hid HTR2.out.lens.2
      have xX0 := (cs_of_box HX7.out).c 0 rfl
      have xX1 := (cs_of_box HX7.out).c 1 rfl
      have xXz := (cs_of_box HX7.out).2.2
      have xW0 := ht.out.wb.c 0 rfl
      have xWz := ht.out.wb.2.2
      go_wp2_with fail
      refine (can_r _ _ V2 v true HCAN.out _ HR7.out.1 HLV.out).mono ?_
      rintro e u33 ⟨rfl, b33⟩
      clear xX0 xX1 xXz xW0 xWz
      have H318 := Lib.hid (ht.out.step b33)
      clear ht
      have H319 := Lib.hid (HX7.out.step b33)
      clear HX7
      have H320 := Lib.hid (HR7.out.step b33)
      clear HR7
      have H321 := Lib.hid (keep2 b33 hb.out)
      clear hb
      clear b33
      have t9 : i ≤ 1000 := by have h1 := HIL.out; have h2 := H9.out; omega
      go_wp2
      go_roundw
      case rel => exact ⟨i + 1, la, lc, L, v, D, T, z, V2, M2, HIL.out, (by first | rfl | go_num), rfl, HTR2, H318, H321⟩
      case measure => exact meas_any HIL.out H9.out
set_option maxRecDepth 100000 in
set_option maxHeartbeats 8000000 in
theorem truth_any (st : Int) (vl : Value) (l : List Int) (w : World) (a1 : 0 ≤ st) (a2 : st ≤ 255) (h : KsAt .u16 w vl l)  :
    Calls Try.prog 5 #[.int .u8 st, vl] w fun e w' => e = .returned (.bool true) ∧ Below w.heap.size w w' := by
  by_cases hl : 40 < l.length
  · exact truth_no st vl l w a1 a2 h hl
  · exact truth_go st vl l w a1 a2 h hl
end Go.Proofs.Ytigpopemllamdaa
