/- The law 'BeliefCertain'. -/
import Derived.Test.YtigpopemllamdaaCi
import Derived.Test.YtigpopemllamdaaCh
import Derived.Deep.CutRange
namespace Go.Proofs.Ytigpopemllamdaa
open Go.RowKit

theorem known_q {V : List Int} {M : List Od} (x : Int) (hx : 0 ≤ x ∧ x < 16) (hV : [x] = V) (hM : bS (-1) x = M) (w : World) : Calls Try.prog 22 #[.int .i64 x] w (ChK V M w) := by
  have h := known_any x w
  have e1 : inr x 0 15 = true := inr_iff.2 ⟨hx.1, by omega⟩
  have e2 : kV x = V := by unfold kV; rw [if_pos e1, hV]
  have e3 : kM x = M := by unfold kM; rw [if_pos e1, ← hM]; rfl
  rw [e2, e3] at h
  exact h
theorem ks_get {k : IntKind} {w : World} {sa : Option Addr} {sc : Nat} {l : List Int} (h : KsAt k w (.slice sa l.length sc) l) {i : Nat} (hi : i < l.length) : ∃ b off, sa = some ⟨b, off, none⟩ ∧ w.cell? ⟨b, off + i, none⟩ = some (.int k (l.getD i 0)) ∧ k.min ≤ l.getD i 0 ∧ l.getD i 0 ≤ k.max := by
  obtain ⟨a, c, hv, -, hx⟩ := h
  obtain ⟨rfl, rfl⟩ : sa = a ∧ sc = c := by simpa using hv
  obtain ⟨b, off, rfl, hy⟩ := hx (by intro e; rw [e] at hi; simp at hi)
  obtain ⟨y0, y1⟩ := hy i _ (getD_of hi)
  exact ⟨b, off, rfl, y0, y1⟩
theorem surely_one (u s : Value) (x : Int) (V : List Int) (hV : V = [x]) (w : World) (h : IntsAt w u V) :
    Calls Try.prog 17 #[.agg #[u, s]] w fun e w' => e = .returned (.tuple #[.int .i64 x, .bool true]) ∧ Below w.heap.size w w' := by
  subst hV
  refine (surely_any u s [x] w h (by simp)).mono ?_
  rintro e w' ⟨rfl, b⟩
  exact ⟨by simp, b⟩
set_option maxRecDepth 100000 in
set_option maxHeartbeats 8000000 in
theorem certain_no (st : Int) (v : Value) (l : List Int) (wh : Int) (w : World) (_ : 0 ≤ st) (_ : st ≤ 255) (h : KsAt .u8 w v l) (_ : 0 ≤ wh) (_ : wh ≤ 255) (hl : 8 < l.length) :
    Calls Try.prog 8 #[.int .u8 st, v, .int .u8 wh] w fun e w' => e = .returned (.bool true) ∧ Below w.heap.size w w' := by
  have H0 := Lib.hid (Below.refl w.heap.size w)
  have HK := Lib.hid h
  obtain ⟨sa, sc, rfl, -, -⟩ := h
  go_enter Try.func8, Try.ntmps8
  go_wp2_with fail
  refine (head_any _).mono ?_
  rintro e u1 ⟨rfl, b1⟩
  have H1 := Lib.hid (keep2 b1 H0.out)
  clear H0
  clear b1
  have hg : (8 : Int) < (l.length : Int) := by omega
  go_wp2
  go_ret
  exact ⟨rfl, H1.out⟩
set_option maxRecDepth 100000 in
set_option maxHeartbeats 8000000 in
theorem certain_go (st : Int) (v : Value) (l : List Int) (wh : Int) (w : World) (a1 : 0 ≤ st) (a2 : st ≤ 255) (h : KsAt .u8 w v l) (b1 : 0 ≤ wh) (b2 : wh ≤ 255) (hl : ¬ 8 < l.length) :
    Calls Try.prog 8 #[.int .u8 st, v, .int .u8 wh] w fun e w' => e = .returned (.bool true) ∧ Below w.heap.size w w' := by
  have H0 := Lib.hid (Below.refl w.heap.size w)
  have HK := Lib.hid h
  obtain ⟨sa, sc, rfl, -, -⟩ := h
  have HS0 := Lib.hid (show 0 ≤ st % 16 ∧ st % 16 < 16 by omega)
  obtain ⟨V0, hV0⟩ : ∃ z, [st % 16] = z := ⟨_, rfl⟩
  obtain ⟨M0, hM0⟩ : ∃ z, bS (-1) (st % 16) = z := ⟨_, rfl⟩
  have HCI := Lib.hid (CI.start (ds := l) HS0.out)
  rw [hV0, hM0] at HCI
  have HV0 := Lib.hid hV0
  have HM0 := Lib.hid hM0
  clear hV0 hM0
  go_enter Try.func8, Try.ntmps8
  go_wp2_with fail
  refine (head_any _).mono ?_
  rintro e u1 ⟨rfl, b1⟩
  have H1 := Lib.hid (keep2 b1 H0.out)
  clear H0
  clear b1
  have hg : ¬ (8 : Int) < (l.length : Int) := by omega
  go_wp2_with fail
  refine (known_q (st % 16) HS0.out HV0.out HM0.out _).mono ?_
  rintro e u2 ⟨ua0, uc0, fa0, fc0, rfl, b2, hr⟩
  have H2 := Lib.hid (keep2 b2 H1.out)
  clear H1
  clear b2
  have H3 := Lib.hid (hr)
  clear hr
  have HBb := Lib.hid (BB.new H3.out)
  have H_KB := Lib.hid (H2.out.size)
  have H4 := Lib.hid (H3.out.step (al u2 (.cells #[.slice ua0 V0.length uc0, .slice fa0 M0.length fc0] 25)))
  clear H3
  have H5 := Lib.hid (keep2 (al u2 (.cells #[.slice ua0 V0.length uc0, .slice fa0 M0.length fc0] 25)) H2.out)
  clear H2
  have H6 := Lib.hid (Cs.new u2 (u2.heap.size) #[.slice ua0 V0.length uc0, .slice fa0 M0.length fc0] 25 (by simp))
  go_wp2_with fail
  refine (known_q (st % 16) HS0.out HV0.out HM0.out _).mono ?_
  rintro e u3 ⟨ua1, uc1, fa1, fc1, rfl, b3, hr⟩
  have H7 := Lib.hid (H4.out.step b3)
  clear H4
  have H8 := Lib.hid (H6.out.step b3)
  clear H6
  have H9 := Lib.hid (HBb.out.step b3)
  clear HBb
  have H10 := Lib.hid (keep2 b3 H5.out)
  clear H5
  clear b3
  have H11 := Lib.hid (hr)
  clear hr
  have HBc := Lib.hid (BB.new H11.out)
  have H_KC := Lib.hid (H10.out.size)
  have H_LT := Lib.hid (show (u2.heap.size) < u3.heap.size from H8.out.2.2)
  have H12 := Lib.hid (H7.out.step (al u3 (.cells #[.slice ua1 V0.length uc1, .slice fa1 M0.length fc1] 25)))
  clear H7
  have H13 := Lib.hid (H8.out.step (al u3 (.cells #[.slice ua1 V0.length uc1, .slice fa1 M0.length fc1] 25)))
  clear H8
  have H14 := Lib.hid (H9.out.step (al u3 (.cells #[.slice ua1 V0.length uc1, .slice fa1 M0.length fc1] 25)))
  clear H9
  have H15 := Lib.hid (H11.out.step (al u3 (.cells #[.slice ua1 V0.length uc1, .slice fa1 M0.length fc1] 25)))
  clear H11
  have H16 := Lib.hid (keep2 (al u3 (.cells #[.slice ua1 V0.length uc1, .slice fa1 M0.length fc1] 25)) H10.out)
  clear H10
  have H17 := Lib.hid (Cs.new u3 (u3.heap.size) #[.slice ua1 V0.length uc1, .slice fa1 M0.length fc1] 25 (by simp))
  go_wp2_with fail
  have HKB := Lib.hid (show w.heap.size ≤ (u2.heap.size) from H_KB.out)
  have HKC := Lib.hid (show w.heap.size ≤ (u3.heap.size) from H_KC.out)
  have HNE := Lib.hid (show (u2.heap.size) ≠ (u3.heap.size) by have h1 := H13.out.2.2; have h2 := H_LT.out; omega)
  go_loopw [10, 11] (fun wv iv wr => ∃ (i : Nat) (want : Int) (Vb : List Int) (Mb : List Od) (Vc : List Int) (Mc : List Od), i ≤ l.length ∧ iv = .int .i64 i ∧ wv = .int .i64 want ∧ Hid (CI (st % 16) l i want Vb Mb Vc Mc) ∧ Hid (BB Vb Mb (u2.heap.size) wr) ∧ Hid (BB Vc Mc (u3.heap.size) wr) ∧ Hid (Below w.heap.size w wr)) (fun _ iv _ => l.length - (intOf iv).toNat)
  case atStart => exact ⟨0, st % 16, V0, M0, V0, M0, by omega, rfl, rfl, HCI, H14, HBc, H16⟩
  case round =>
    obtain ⟨i, want, Vb, Mb, Vc, Mc, hi, rfl, rfl, HCJ, HLb, HLc, HW⟩ := hrel
    clear HCI H12 H13 H14 H15 H17 HBc H_KB H_KC H_LT
    by_cases hlt : i < l.length
    rotate_left
    · skip
      obtain rfl : i = l.length := by omega
      have HI8 := Lib.hid (show l.length ≤ 8 by omega)
      obtain ⟨uab, ucb, fab, fcb, hbx, hrb⟩ := HLb.out
      have hcb := cs_of_box hbx
      have H301 := Lib.hid (hbx)
      have H302 := Lib.hid (hrb)
      have H303 := Lib.hid (hcb)
      clear hbx hrb hcb
      obtain ⟨uac, ucc, fac, fcc, hbx, hrb⟩ := HLc.out
      have hcb := cs_of_box hbx
      have H304 := Lib.hid (hbx)
      have H305 := Lib.hid (hrb)
      have H306 := Lib.hid (hcb)
      clear hbx hrb hcb
      have HVB := Lib.hid (show Vb = [want] from HCJ.out.2.1)
      have xb0 : wr.cell? ⟨(u2.heap.size), 0, none⟩ = some (.slice uab Vb.length ucb) := H303.out.c 0 rfl
      have xb1 : wr.cell? ⟨(u2.heap.size), 1, none⟩ = some (.slice fab Mb.length fcb) := H303.out.c 1 rfl
      have zb : (u2.heap.size) < wr.heap.size := H303.out.2.2
      go_wp2_with fail
      refine (surely_one _ _ want Vb HVB.out _ H302.out.1).mono ?_
      rintro e u31 ⟨rfl, b31⟩
      clear xb0 xb1 zb
      have H307 := Lib.hid (H301.out.step b31)
      clear H301
      have H308 := Lib.hid (H302.out.step b31)
      clear H302
      have H309 := Lib.hid (H303.out.step b31)
      clear H303
      have H310 := Lib.hid (H304.out.step b31)
      clear H304
      have H311 := Lib.hid (H305.out.step b31)
      clear H305
      have H312 := Lib.hid (H306.out.step b31)
      clear H306
      have H313 := Lib.hid (keep2 b31 HW.out)
      clear HW
      clear b31
      have hcl : 0 < Vc.length := by
        have h1 := (isW_iff Vc Mc).1 HCJ.out.2.2.2.2.1
        obtain ⟨x, hx, -⟩ := h1.2.2.1
        have h2 : x.d ∈ Vc := by
          rw [h1.2.2.2.2.2.2, (rvl_prop Mc).2]
          have := okR_d (h1.2.2.2.1 x hx)
          exact ⟨this, x, hx, rfl⟩
        exact List.length_pos_of_mem h2
      have hcl2 : Vc.length ≤ 300 := HCJ.out.2.2.2.2.2.2.2.1
      have g1 : ((Vc.length : Int) == 0) = false := by simp; intro e; rw [e] at hcl; simp at hcl
      have g2 : ¬ (Vc.length : Int) = 0 := by omega
      have g3 : ¬ Vc = [] := by intro e; rw [e] at hcl; simp at hcl
      have g4 : ¬ Vc.length = 0 := by omega
      obtain ⟨j, hj⟩ : ∃ j : Nat, wh % (Vc.length : Int) = j := ⟨(wh % (Vc.length : Int)).toNat, by have := Int.emod_nonneg wh (show (Vc.length : Int) ≠ 0 by omega); omega⟩
      have hjl : j < Vc.length := by have := Int.emod_lt_of_pos wh (show (0 : Int) < (Vc.length : Int) by omega); omega
      have hji : (j : Int) < (Vc.length : Int) := by omega
      have hj0 : (0 : Int) ≤ (j : Int) := by omega
      obtain ⟨ac, cc2, hvc, -, hxc⟩ := H311.out.1
      obtain ⟨rfl, rfl⟩ : uac = ac ∧ ucc = cc2 := by simpa using hvc
      obtain ⟨bc, oc, rfl, hyc⟩ := hxc g3
      have yc := hyc j _ (getD_of hjl)
      have ycz := World.block_lt_of_cell? _ _ yc
      have HXV := Lib.hid (show Vc.getD j 0 ∈ Vc from List.mem_of_getElem? (getD_of hjl))
      clear hxc hyc hvc
      obtain ⟨xv, hxv⟩ : ∃ z, Vc.getD j 0 = z := ⟨_, rfl⟩
      rw [hxv] at yc HXV
      clear hxv
      have HLA := Lib.hid (HCJ.out.last HI8.out HXV.out)
      obtain ⟨M9, hM9⟩ : ∃ z, rpM Mc xv ((l.length : Int) - 1) = z := ⟨_, rfl⟩
      rw [hM9] at HLA
      have HM9 := Lib.hid hM9
      have HM8 := Lib.hid (show rM 0 M9 = M9 from rM_z M9)
      clear hM9
      have xb0 : u31.cell? ⟨(u2.heap.size), 0, none⟩ = some (.slice uab Vb.length ucb) := H309.out.c 0 rfl
      have xb1 : u31.cell? ⟨(u2.heap.size), 1, none⟩ = some (.slice fab Mb.length fcb) := H309.out.c 1 rfl
      have zb : (u2.heap.size) < u31.heap.size := H309.out.2.2
      have xc0 : u31.cell? ⟨(u3.heap.size), 0, none⟩ = some (.slice (some ⟨bc, oc, none⟩) Vc.length ucc) := H312.out.c 0 rfl
      have xc1 : u31.cell? ⟨(u3.heap.size), 1, none⟩ = some (.slice fac Mc.length fcc) := H312.out.c 1 rfl
      have zc : (u3.heap.size) < u31.heap.size := H312.out.2.2
      go_upto_region 22 with fail
      go_quiet (fail)
      go_wp2_with fail
      obtain ⟨W8, hW8⟩ : ∃ z, World.drewN u31 nq = z := ⟨_, rfl⟩
      have b8 : Below u31.heap.size u31 W8 := by rw [← hW8]; exact below_drewN' _ _ _
      rw [hW8]
      clear hW8 xb0 xb1 zb xc0 xc1 zc
      have H314 := Lib.hid (H307.out.step b8)
      clear H307
      have H315 := Lib.hid (H308.out.step b8)
      clear H308
      have H316 := Lib.hid (H309.out.step b8)
      clear H309
      have H317 := Lib.hid (H310.out.step b8)
      clear H310
      have H318 := Lib.hid (H311.out.step b8)
      clear H311
      have H319 := Lib.hid (H312.out.step b8)
      clear H312
      have H320 := Lib.hid (keep2 b8 H313.out)
      clear H313
      clear b8
      refine (reported_q xv ((l.length : Int) - 1) (E := 0) (V' := [xv]) (M' := M9) HLA.out.1 (by rw [HM9.out]; exact HLA.out.2) (by rw [HM9.out]; exact HM8.out) (some ⟨bc, oc, none⟩) ucc fac fcc _ H318.out HCJ.out.2.2.2.2.2.2.2.2 HCJ.out.2.2.2.2.2.2.2.1).mono ?_
      rintro e u32 ⟨ua9, uc9, fa9, fc9, rfl, b32, hr⟩
      have H321 := Lib.hid (H314.out.step b32)
      clear H314
      have H322 := Lib.hid (H315.out.step b32)
      clear H315
      have H323 := Lib.hid (H316.out.step b32)
      clear H316
      have H324 := Lib.hid (H317.out.step b32)
      clear H317
      have H325 := Lib.hid (H318.out.step b32)
      clear H318
      have H326 := Lib.hid (H319.out.step b32)
      clear H319
      have H327 := Lib.hid (keep2 b32 H320.out)
      clear H320
      clear b32
      obtain ⟨V9, hV9⟩ : ∃ z, [xv] = z := ⟨_, rfl⟩
      rw [hV9] at hr ⊢
      have HV9 := Lib.hid hV9.symm
      clear hV9
      have H328 := Lib.hid (hr)
      clear hr
      have H329 := Lib.hid (H321.out.step (al u32 (.cells #[.slice ua9 V9.length uc9, .slice fa9 M9.length fc9] 25)))
      clear H321
      have H330 := Lib.hid (H322.out.step (al u32 (.cells #[.slice ua9 V9.length uc9, .slice fa9 M9.length fc9] 25)))
      clear H322
      have H331 := Lib.hid (H323.out.step (al u32 (.cells #[.slice ua9 V9.length uc9, .slice fa9 M9.length fc9] 25)))
      clear H323
      have H332 := Lib.hid (H324.out.step (al u32 (.cells #[.slice ua9 V9.length uc9, .slice fa9 M9.length fc9] 25)))
      clear H324
      have H333 := Lib.hid (H325.out.step (al u32 (.cells #[.slice ua9 V9.length uc9, .slice fa9 M9.length fc9] 25)))
      clear H325
      have H334 := Lib.hid (H326.out.step (al u32 (.cells #[.slice ua9 V9.length uc9, .slice fa9 M9.length fc9] 25)))
      clear H326
      have H335 := Lib.hid (H328.out.step (al u32 (.cells #[.slice ua9 V9.length uc9, .slice fa9 M9.length fc9] 25)))
      clear H328
      have H336 := Lib.hid (keep2 (al u32 (.cells #[.slice ua9 V9.length uc9, .slice fa9 M9.length fc9] 25)) H327.out)
      clear H327
      have H337 := Lib.hid (Cs.new u32 (u32.heap.size) #[.slice ua9 V9.length uc9, .slice fa9 M9.length fc9] 25 (by simp))
      have x90 : (u32.alloc (.cells #[.slice ua9 V9.length uc9, .slice fa9 M9.length fc9] 25)).cell? ⟨(u32.heap.size), 0, none⟩ = some (.slice ua9 V9.length uc9) := H337.out.c 0 rfl
      have x91 : (u32.alloc (.cells #[.slice ua9 V9.length uc9, .slice fa9 M9.length fc9] 25)).cell? ⟨(u32.heap.size), 1, none⟩ = some (.slice fa9 M9.length fc9) := H337.out.c 1 rfl
      have z9 : (u32.heap.size) < (u32.alloc (.cells #[.slice ua9 V9.length uc9, .slice fa9 M9.length fc9] 25)).heap.size := H337.out.2.2
      go_wp2_with fail
      refine (surely_one _ _ xv V9 HV9.out _ H335.out.1).mono ?_
      rintro e u33 ⟨rfl, b33⟩
      clear x90 x91 z9
      have H338 := Lib.hid (H329.out.step b33)
      clear H329
      have H339 := Lib.hid (H330.out.step b33)
      clear H330
      have H340 := Lib.hid (H331.out.step b33)
      clear H331
      have H341 := Lib.hid (H332.out.step b33)
      clear H332
      have H342 := Lib.hid (H333.out.step b33)
      clear H333
      have H343 := Lib.hid (H334.out.step b33)
      clear H334
      have H344 := Lib.hid (H335.out.step b33)
      clear H335
      have H345 := Lib.hid (H337.out.step b33)
      clear H337
      have H346 := Lib.hid (keep2 b33 H336.out)
      clear H336
      clear b33
      go_wp2
      go_ret
      exact ⟨rfl, H346.out⟩
    obtain ⟨bk, ok, rfl, y0, y1, y2⟩ := ks_get (HK.out.step HW.out) hlt
    have yz := World.block_lt_of_cell? _ _ y0
    have t1 : (i : Int) < (l.length : Int) := by omega
    have HI8 := Lib.hid (show i < 8 by omega)
    obtain ⟨yv, hyv⟩ : ∃ z, l.getD i 0 = z := ⟨_, rfl⟩
    rw [hyv] at y0 y1 y2
    have y1 : 0 ≤ yv := y1
    have y2 : yv ≤ 255 := y2
    obtain ⟨V1, M1, V2, M2, V3, M3, hcr⟩ := HCJ.out.next HI8.out (d := yv % 16) (by rw [← hyv])
    have HCR := Lib.hid hcr
    clear hcr hyv
    obtain ⟨uab, ucb, fab, fcb, hbx, hrb⟩ := HLb.out
    have hcb := cs_of_box hbx
    have H301 := Lib.hid (hbx)
    have H302 := Lib.hid (hrb)
    have H303 := Lib.hid (hcb)
    clear hbx hrb hcb
    obtain ⟨uac, ucc, fac, fcc, hbx, hrb⟩ := HLc.out
    have hcb := cs_of_box hbx
    have H304 := Lib.hid (hbx)
    have H305 := Lib.hid (hrb)
    have H306 := Lib.hid (hcb)
    clear hbx hrb hcb
    go_wp2_with fail
    refine (order_any (i : Int) (yv % 16) _).mono ?_
    rintro e u31 ⟨rfl, b31⟩
    have H307 := Lib.hid (H301.out.step b31)
    clear H301
    have H308 := Lib.hid (H302.out.step b31)
    clear H302
    have H309 := Lib.hid (H303.out.step b31)
    clear H303
    have H310 := Lib.hid (H304.out.step b31)
    clear H304
    have H311 := Lib.hid (H305.out.step b31)
    clear H305
    have H312 := Lib.hid (H306.out.step b31)
    clear H306
    have H313 := Lib.hid (keep2 b31 HW.out)
    clear HW
    clear b31
    have HOB := Lib.hid (show u31.heap.size ≠ (u2.heap.size) by have := H309.out.2.2; omega)
    have HOC := Lib.hid (show u31.heap.size ≠ (u3.heap.size) by have := H312.out.2.2; omega)
    have H314 := Lib.hid (H307.out.step (al u31 (.cells #[.int .i64 (i : Int), .int .i64 0, .int .i64 0, .int .i64 (yv % 16)] 27)))
    clear H307
    have H315 := Lib.hid (H308.out.step (al u31 (.cells #[.int .i64 (i : Int), .int .i64 0, .int .i64 0, .int .i64 (yv % 16)] 27)))
    clear H308
    have H316 := Lib.hid (H309.out.step (al u31 (.cells #[.int .i64 (i : Int), .int .i64 0, .int .i64 0, .int .i64 (yv % 16)] 27)))
    clear H309
    have H317 := Lib.hid (H310.out.step (al u31 (.cells #[.int .i64 (i : Int), .int .i64 0, .int .i64 0, .int .i64 (yv % 16)] 27)))
    clear H310
    have H318 := Lib.hid (H311.out.step (al u31 (.cells #[.int .i64 (i : Int), .int .i64 0, .int .i64 0, .int .i64 (yv % 16)] 27)))
    clear H311
    have H319 := Lib.hid (H312.out.step (al u31 (.cells #[.int .i64 (i : Int), .int .i64 0, .int .i64 0, .int .i64 (yv % 16)] 27)))
    clear H312
    have H320 := Lib.hid (keep2 (al u31 (.cells #[.int .i64 (i : Int), .int .i64 0, .int .i64 0, .int .i64 (yv % 16)] 27)) H313.out)
    clear H313
    have H321 := Lib.hid (Cs.new u31 (u31.heap.size) #[.int .i64 (i : Int), .int .i64 0, .int .i64 0, .int .i64 (yv % 16)] 27 (by simp))
    have xb0 : (u31.alloc (.cells #[.int .i64 (i : Int), .int .i64 0, .int .i64 0, .int .i64 (yv % 16)] 27)).cell? ⟨(u2.heap.size), 0, none⟩ = some (.slice uab Vb.length ucb) := H316.out.c 0 rfl
    have xb1 : (u31.alloc (.cells #[.int .i64 (i : Int), .int .i64 0, .int .i64 0, .int .i64 (yv % 16)] 27)).cell? ⟨(u2.heap.size), 1, none⟩ = some (.slice fab Mb.length fcb) := H316.out.c 1 rfl
    have zb : (u2.heap.size) < (u31.alloc (.cells #[.int .i64 (i : Int), .int .i64 0, .int .i64 0, .int .i64 (yv % 16)] 27)).heap.size := H316.out.2.2
    have xo0 : (u31.alloc (.cells #[.int .i64 (i : Int), .int .i64 0, .int .i64 0, .int .i64 (yv % 16)] 27)).cell? ⟨(u31.heap.size), 0, none⟩ = some (.int .i64 (i : Int)) := H321.out.c 0 rfl
    have xo1 : (u31.alloc (.cells #[.int .i64 (i : Int), .int .i64 0, .int .i64 0, .int .i64 (yv % 16)] 27)).cell? ⟨(u31.heap.size), 1, none⟩ = some (.int .i64 0) := H321.out.c 1 rfl
    have xo2 : (u31.alloc (.cells #[.int .i64 (i : Int), .int .i64 0, .int .i64 0, .int .i64 (yv % 16)] 27)).cell? ⟨(u31.heap.size), 2, none⟩ = some (.int .i64 0) := H321.out.c 2 rfl
    have xo3 : (u31.alloc (.cells #[.int .i64 (i : Int), .int .i64 0, .int .i64 0, .int .i64 (yv % 16)] 27)).cell? ⟨(u31.heap.size), 3, none⟩ = some (.int .i64 (yv % 16)) := H321.out.c 3 rfl
    have zo : (u31.heap.size) < (u31.alloc (.cells #[.int .i64 (i : Int), .int .i64 0, .int .i64 0, .int .i64 (yv % 16)] 27)).heap.size := H321.out.2.2
    go_wp2_with fail
    refine (sent_q ⟨(i : Int), 0, 0, yv % 16⟩ HCR.out.e1 HCR.out.v1 HCR.out.m1 uab ucb fab fcb _ H315.out (by have := HCJ.out; exact this.2.2.2.2.2.2.1) (by have := HCJ.out; exact this.2.2.2.2.2.1)).mono ?_
    rintro e u32 ⟨ua2, uc2, fa2, fc2, rfl, b32, hr⟩
    clear xb0 xb1 zb xo0 xo1 xo2 xo3 zo
    have H322 := Lib.hid (H314.out.step b32)
    clear H314
    have H323 := Lib.hid (H315.out.step b32)
    clear H315
    have H324 := Lib.hid (H316.out.step b32)
    clear H316
    have H325 := Lib.hid (H317.out.step b32)
    clear H317
    have H326 := Lib.hid (H318.out.step b32)
    clear H318
    have H327 := Lib.hid (H319.out.step b32)
    clear H319
    have H328 := Lib.hid (H321.out.step b32)
    clear H321
    have H329 := Lib.hid (keep2 b32 H320.out)
    clear H320
    clear b32
    have H330 := Lib.hid (hr)
    clear hr
    have H331 := Lib.hid (H322.out.step (al u32 (.cells #[.slice ua2 V1.length uc2, .slice fa2 M1.length fc2] 25)))
    clear H322
    have H332 := Lib.hid (H323.out.step (al u32 (.cells #[.slice ua2 V1.length uc2, .slice fa2 M1.length fc2] 25)))
    clear H323
    have H333 := Lib.hid (H324.out.step (al u32 (.cells #[.slice ua2 V1.length uc2, .slice fa2 M1.length fc2] 25)))
    clear H324
    have H334 := Lib.hid (H325.out.step (al u32 (.cells #[.slice ua2 V1.length uc2, .slice fa2 M1.length fc2] 25)))
    clear H325
    have H335 := Lib.hid (H326.out.step (al u32 (.cells #[.slice ua2 V1.length uc2, .slice fa2 M1.length fc2] 25)))
    clear H326
    have H336 := Lib.hid (H327.out.step (al u32 (.cells #[.slice ua2 V1.length uc2, .slice fa2 M1.length fc2] 25)))
    clear H327
    have H337 := Lib.hid (H328.out.step (al u32 (.cells #[.slice ua2 V1.length uc2, .slice fa2 M1.length fc2] 25)))
    clear H328
    have H338 := Lib.hid (H330.out.step (al u32 (.cells #[.slice ua2 V1.length uc2, .slice fa2 M1.length fc2] 25)))
    clear H330
    have H339 := Lib.hid (keep2 (al u32 (.cells #[.slice ua2 V1.length uc2, .slice fa2 M1.length fc2] 25)) H329.out)
    clear H329
    have H340 := Lib.hid (Cs.new u32 (u32.heap.size) #[.slice ua2 V1.length uc2, .slice fa2 M1.length fc2] 25 (by simp))
    have x20 : (u32.alloc (.cells #[.slice ua2 V1.length uc2, .slice fa2 M1.length fc2] 25)).cell? ⟨(u32.heap.size), 0, none⟩ = some (.slice ua2 V1.length uc2) := H340.out.c 0 rfl
    have x21 : (u32.alloc (.cells #[.slice ua2 V1.length uc2, .slice fa2 M1.length fc2] 25)).cell? ⟨(u32.heap.size), 1, none⟩ = some (.slice fa2 M1.length fc2) := H340.out.c 1 rfl
    have z2 : (u32.heap.size) < (u32.alloc (.cells #[.slice ua2 V1.length uc2, .slice fa2 M1.length fc2] 25)).heap.size := H340.out.2.2
    go_wp2_with fail
    refine (confirmed_q (i : Int) HCR.out.e2 HCR.out.v2 HCR.out.m2 ua2 uc2 fa2 fc2 _ H338.out HCR.out.l1.2 HCR.out.l1.1).mono ?_
    rintro e u33 ⟨ua3, uc3, fa3, fc3, rfl, b33, hr⟩
    clear x20 x21 z2
    have H341 := Lib.hid (H331.out.step b33)
    clear H331
    have H342 := Lib.hid (H332.out.step b33)
    clear H332
    have H343 := Lib.hid (H333.out.step b33)
    clear H333
    have H344 := Lib.hid (H334.out.step b33)
    clear H334
    have H345 := Lib.hid (H335.out.step b33)
    clear H335
    have H346 := Lib.hid (H336.out.step b33)
    clear H336
    have H347 := Lib.hid (H337.out.step b33)
    clear H337
    have H348 := Lib.hid (H338.out.step b33)
    clear H338
    have H349 := Lib.hid (H340.out.step b33)
    clear H340
    have H350 := Lib.hid (keep2 b33 H339.out)
    clear H339
    clear b33
    have H351 := Lib.hid (hr)
    clear hr
    have H352 := Lib.hid (H341.out.step (al u33 (.cells #[.slice ua3 V2.length uc3, .slice fa3 M2.length fc3] 25)))
    clear H341
    have H353 := Lib.hid (H342.out.step (al u33 (.cells #[.slice ua3 V2.length uc3, .slice fa3 M2.length fc3] 25)))
    clear H342
    have H354 := Lib.hid (H343.out.step (al u33 (.cells #[.slice ua3 V2.length uc3, .slice fa3 M2.length fc3] 25)))
    clear H343
    have H355 := Lib.hid (H344.out.step (al u33 (.cells #[.slice ua3 V2.length uc3, .slice fa3 M2.length fc3] 25)))
    clear H344
    have H356 := Lib.hid (H345.out.step (al u33 (.cells #[.slice ua3 V2.length uc3, .slice fa3 M2.length fc3] 25)))
    clear H345
    have H357 := Lib.hid (H346.out.step (al u33 (.cells #[.slice ua3 V2.length uc3, .slice fa3 M2.length fc3] 25)))
    clear H346
    have H358 := Lib.hid (H347.out.step (al u33 (.cells #[.slice ua3 V2.length uc3, .slice fa3 M2.length fc3] 25)))
    clear H347
    have H359 := Lib.hid (H348.out.step (al u33 (.cells #[.slice ua3 V2.length uc3, .slice fa3 M2.length fc3] 25)))
    clear H348
    have H360 := Lib.hid (H349.out.step (al u33 (.cells #[.slice ua3 V2.length uc3, .slice fa3 M2.length fc3] 25)))
    clear H349
    have H361 := Lib.hid (H351.out.step (al u33 (.cells #[.slice ua3 V2.length uc3, .slice fa3 M2.length fc3] 25)))
    clear H351
    have H362 := Lib.hid (keep2 (al u33 (.cells #[.slice ua3 V2.length uc3, .slice fa3 M2.length fc3] 25)) H350.out)
    clear H350
    have H363 := Lib.hid (Cs.new u33 (u33.heap.size) #[.slice ua3 V2.length uc3, .slice fa3 M2.length fc3] 25 (by simp))
    have xc0 : (u33.alloc (.cells #[.slice ua3 V2.length uc3, .slice fa3 M2.length fc3] 25)).cell? ⟨(u3.heap.size), 0, none⟩ = some (.slice uac Vc.length ucc) := H357.out.c 0 rfl
    have xc1 : (u33.alloc (.cells #[.slice ua3 V2.length uc3, .slice fa3 M2.length fc3] 25)).cell? ⟨(u3.heap.size), 1, none⟩ = some (.slice fac Mc.length fcc) := H357.out.c 1 rfl
    have zc : (u3.heap.size) < (u33.alloc (.cells #[.slice ua3 V2.length uc3, .slice fa3 M2.length fc3] 25)).heap.size := H357.out.2.2
    have xo0 : (u33.alloc (.cells #[.slice ua3 V2.length uc3, .slice fa3 M2.length fc3] 25)).cell? ⟨(u31.heap.size), 0, none⟩ = some (.int .i64 (i : Int)) := H358.out.c 0 rfl
    have xo1 : (u33.alloc (.cells #[.slice ua3 V2.length uc3, .slice fa3 M2.length fc3] 25)).cell? ⟨(u31.heap.size), 1, none⟩ = some (.int .i64 0) := H358.out.c 1 rfl
    have xo2 : (u33.alloc (.cells #[.slice ua3 V2.length uc3, .slice fa3 M2.length fc3] 25)).cell? ⟨(u31.heap.size), 2, none⟩ = some (.int .i64 0) := H358.out.c 2 rfl
    have xo3 : (u33.alloc (.cells #[.slice ua3 V2.length uc3, .slice fa3 M2.length fc3] 25)).cell? ⟨(u31.heap.size), 3, none⟩ = some (.int .i64 (yv % 16)) := H358.out.c 3 rfl
    have zo : (u31.heap.size) < (u33.alloc (.cells #[.slice ua3 V2.length uc3, .slice fa3 M2.length fc3] 25)).heap.size := H358.out.2.2
    go_wp2_with fail
    refine (sent_q ⟨(i : Int), 0, 0, yv % 16⟩ HCR.out.e3 HCR.out.v3 HCR.out.m3 uac ucc fac fcc _ H356.out (by have := HCJ.out; exact this.2.2.2.2.2.2.2.2) (by have := HCJ.out; exact this.2.2.2.2.2.2.2.1)).mono ?_
    rintro e u34 ⟨ua4, uc4, fa4, fc4, rfl, b34, hr⟩
    clear xc0 xc1 zc xo0 xo1 xo2 xo3 zo
    have H364 := Lib.hid (H352.out.step b34)
    clear H352
    have H365 := Lib.hid (H353.out.step b34)
    clear H353
    have H366 := Lib.hid (H354.out.step b34)
    clear H354
    have H367 := Lib.hid (H355.out.step b34)
    clear H355
    have H368 := Lib.hid (H356.out.step b34)
    clear H356
    have H369 := Lib.hid (H357.out.step b34)
    clear H357
    have H370 := Lib.hid (H358.out.step b34)
    clear H358
    have H371 := Lib.hid (H359.out.step b34)
    clear H359
    have H372 := Lib.hid (H360.out.step b34)
    clear H360
    have H373 := Lib.hid (H361.out.step b34)
    clear H361
    have H374 := Lib.hid (H363.out.step b34)
    clear H363
    have H375 := Lib.hid (keep2 b34 H362.out)
    clear H362
    clear b34
    have H376 := Lib.hid (hr)
    clear hr
    have hn1 : ¬ u34.heap.size = (u2.heap.size) := by have := H366.out.2.2; omega
    have hn2 : ¬ (u2.heap.size) = u34.heap.size := by omega
    have hn3 : ¬ (u2.heap.size) = (u3.heap.size) := HNE.out
    have hn4 : ¬ (u3.heap.size) = (u2.heap.size) := Ne.symm HNE.out
    have HN := Lib.hid (And.intro hn1 (And.intro hn2 (And.intro hn3 hn4)))
    clear hn1 hn2 hn3 hn4
    have H377 := Lib.hid (H364.out.step (al u34 (.cells #[.slice ua4 V3.length uc4, .slice fa4 M3.length fc4] 25)))
    clear H364
    have H378 := Lib.hid (H365.out.step (al u34 (.cells #[.slice ua4 V3.length uc4, .slice fa4 M3.length fc4] 25)))
    clear H365
    have H379 := Lib.hid (H366.out.step (al u34 (.cells #[.slice ua4 V3.length uc4, .slice fa4 M3.length fc4] 25)))
    clear H366
    have H380 := Lib.hid (H367.out.step (al u34 (.cells #[.slice ua4 V3.length uc4, .slice fa4 M3.length fc4] 25)))
    clear H367
    have H381 := Lib.hid (H368.out.step (al u34 (.cells #[.slice ua4 V3.length uc4, .slice fa4 M3.length fc4] 25)))
    clear H368
    have H382 := Lib.hid (H369.out.step (al u34 (.cells #[.slice ua4 V3.length uc4, .slice fa4 M3.length fc4] 25)))
    clear H369
    have H383 := Lib.hid (H370.out.step (al u34 (.cells #[.slice ua4 V3.length uc4, .slice fa4 M3.length fc4] 25)))
    clear H370
    have H384 := Lib.hid (H371.out.step (al u34 (.cells #[.slice ua4 V3.length uc4, .slice fa4 M3.length fc4] 25)))
    clear H371
    have H385 := Lib.hid (H372.out.step (al u34 (.cells #[.slice ua4 V3.length uc4, .slice fa4 M3.length fc4] 25)))
    clear H372
    have H386 := Lib.hid (H373.out.step (al u34 (.cells #[.slice ua4 V3.length uc4, .slice fa4 M3.length fc4] 25)))
    clear H373
    have H387 := Lib.hid (H374.out.step (al u34 (.cells #[.slice ua4 V3.length uc4, .slice fa4 M3.length fc4] 25)))
    clear H374
    have H388 := Lib.hid (H376.out.step (al u34 (.cells #[.slice ua4 V3.length uc4, .slice fa4 M3.length fc4] 25)))
    clear H376
    have H389 := Lib.hid (keep2 (al u34 (.cells #[.slice ua4 V3.length uc4, .slice fa4 M3.length fc4] 25)) H375.out)
    clear H375
    have H390 := Lib.hid (Cs.new u34 (u34.heap.size) #[.slice ua4 V3.length uc4, .slice fa4 M3.length fc4] 25 (by simp))
    obtain ⟨W5, hW5⟩ : ∃ z, (u34.alloc (.cells #[.slice ua4 V3.length uc4, .slice fa4 M3.length fc4] 25)) = z := ⟨_, rfl⟩
    have HW5 := Lib.hid hW5
    rw [hW5] at H377 H378 H379 H380 H381 H382 H383 H384 H385 H386 H387 H388 H390 H389
    clear hW5
    have x30 : W5.cell? ⟨(u33.heap.size), 0, none⟩ = some (.slice ua3 V2.length uc3) := H387.out.c 0 rfl
    have x31 : W5.cell? ⟨(u33.heap.size), 1, none⟩ = some (.slice fa3 M2.length fc3) := H387.out.c 1 rfl
    have z3 : (u33.heap.size) < W5.heap.size := H387.out.2.2
    have x40 : W5.cell? ⟨(u34.heap.size), 0, none⟩ = some (.slice ua4 V3.length uc4) := H390.out.c 0 rfl
    have x41 : W5.cell? ⟨(u34.heap.size), 1, none⟩ = some (.slice fa4 M3.length fc4) := H390.out.c 1 rfl
    have z4 : (u34.heap.size) < W5.heap.size := H390.out.2.2
    have xb0 : W5.cell? ⟨(u2.heap.size), 0, none⟩ = some (.slice uab Vb.length ucb) := H379.out.c 0 rfl
    have xb1 : W5.cell? ⟨(u2.heap.size), 1, none⟩ = some (.slice fab Mb.length fcb) := H379.out.c 1 rfl
    have zb : (u2.heap.size) < W5.heap.size := H379.out.2.2
    have xc0 : W5.cell? ⟨(u3.heap.size), 0, none⟩ = some (.slice uac Vc.length ucc) := H382.out.c 0 rfl
    have xc1 : W5.cell? ⟨(u3.heap.size), 1, none⟩ = some (.slice fac Mc.length fcc) := H382.out.c 1 rfl
    have zc : (u3.heap.size) < W5.heap.size := H382.out.2.2
    have fb0 : W5.frozen? ⟨(u2.heap.size), 0, none⟩ = false := H379.out.f 0 (by simp)
    have fb1 : W5.frozen? ⟨(u2.heap.size), 1, none⟩ = false := H379.out.f 1 (by simp)
    have fc0 : W5.frozen? ⟨(u3.heap.size), 0, none⟩ = false := H382.out.f 0 (by simp)
    have fc1 : W5.frozen? ⟨(u3.heap.size), 1, none⟩ = false := H382.out.f 1 (by simp)
    go_upto_region 16 with fail
    rw [HW5.out]
    obtain ⟨hn1, hn2, hn3, hn4⟩ := HN.out
    go_upto_region 18 with fail
    have h3 : BB V2 M2 (u2.heap.size) (putB W5 (u2.heap.size) (.slice ua3 V2.length uc3) (.slice fa3 M2.length fc3)) := BB.of_put ⟨uab, ucb, fab, fcb, H377.out, H378.out⟩ H386.out
    have hc3 : BB Vc Mc (u3.heap.size) (putB W5 (u2.heap.size) (.slice ua3 V2.length uc3) (.slice fa3 M2.length fc3)) := BB.other ⟨uac, ucc, fac, fcc, H380.out, H381.out⟩ (putB_chg _ _ _ _) (sl_of H377.out) (Ne.symm HNE.out)
    have hr4 : Rb V3 M3 ua4 uc4 fa4 fc4 (putB W5 (u2.heap.size) (.slice ua3 V2.length uc3) (.slice fa3 M2.length fc3)) := H388.out.kept (putB_chg _ _ _ _) (sl_of H377.out)
    have h4 := BB.of_put hc3 hr4
    have h5 := BB.other h3 (putB_chg _ (u3.heap.size) (.slice ua4 V3.length uc4) (.slice fa4 M3.length fc4)) hc3.sl HNE.out
    have ho5 := (putB_chg (putB W5 (u2.heap.size) (.slice ua3 V2.length uc3) (.slice fa3 M2.length fc3)) (u3.heap.size) (.slice ua4 V3.length uc4) (.slice fa4 M3.length fc4)).cs (show (u31.heap.size) ≠ (u3.heap.size) from HOC.out) ((putB_chg W5 (u2.heap.size) (.slice ua3 V2.length uc3) (.slice fa3 M2.length fc3)).cs (show (u31.heap.size) ≠ (u2.heap.size) from HOB.out) H383.out)
    have hw6 : Below w.heap.size w (putB (putB W5 (u2.heap.size) (.slice ua3 V2.length uc3) (.slice fa3 M2.length fc3)) (u3.heap.size) (.slice ua4 V3.length uc4) (.slice fa4 M3.length fc4)) := (H389.out.trans (putB_below _ _ HKB.out)).trans (putB_below _ _ HKC.out)
    obtain ⟨W6, hW6⟩ : ∃ z, (putB (putB W5 (u2.heap.size) (.slice ua3 V2.length uc3) (.slice fa3 M2.length fc3)) (u3.heap.size) (.slice ua4 V3.length uc4) (.slice fa4 M3.length fc4)) = z := ⟨_, rfl⟩
    rw [hW6] at h4 h5 ho5 hw6
    have HW6 := Lib.hid hW6
    clear hW6
    have HB4 := Lib.hid h4
    have HB5 := Lib.hid h5
    have HW7 := Lib.hid hw6
    have o3 := ho5.c 3 rfl
    have oz := ho5.2.2
    clear h3 hc3 hr4 h4 h5 hw6 ho5
    clear hn1 hn2 hn3 hn4
    change Code.wp _ _ _ _ (putB (putB W5 (u2.heap.size) (.slice ua3 V2.length uc3) (.slice fa3 M2.length fc3)) (u3.heap.size) (.slice ua4 V3.length uc4) (.slice fa4 M3.length fc4))
    rw [HW6.out]
    clear x30 x31 z3 x40 x41 z4 xb0 xb1 zb xc0 xc1 zc fb0 fb1 fc0 fc1
    go_wp2
    go_roundw
    case rel => exact ⟨i + 1, yv % 16, V2, M2, V3, M3, hlt, by go_num, rfl, Lib.hid HCR.out.ci, HB5, HB4, HW7⟩
    case measure => simp [intOf]; omega
set_option maxRecDepth 100000 in
set_option maxHeartbeats 8000000 in
theorem certain_any (st : Int) (v : Value) (l : List Int) (wh : Int) (w : World) (a1 : 0 ≤ st) (a2 : st ≤ 255) (h : KsAt .u8 w v l) (b1 : 0 ≤ wh) (b2 : wh ≤ 255)  :
    Calls Try.prog 8 #[.int .u8 st, v, .int .u8 wh] w fun e w' => e = .returned (.bool true) ∧ Below w.heap.size w w' := by
  by_cases hl : 8 < l.length
  · exact certain_no st v l wh w a1 a2 h b1 b2 hl
  · exact certain_go st v l wh w a1 a2 h b1 b2 hl
end Go.Proofs.Ytigpopemllamdaa
