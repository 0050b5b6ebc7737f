/- Frames as bytes: 'put'. -/
import Derived.Test.YtebeaekiaikgmaaXa
import Derived.Deep.AppendLies
import Derived.Deep.RegionLaw
namespace Go.Proofs.Ytebeaekiaikgmaa
open Go.RowKit

/-- A byte of a number; a number in some bytes. -/
def byt (n : Int) (i : Nat) : Int := n / 2 ^ (8 * i) % 256
def encN (wd : Nat) (n : Int) : List Int := (List.range wd).map fun j => byt n (wd - 1 - j)
def encs (wd : Nat) (l : List Int) : List Int := l.flatMap (encN wd)
def sumL (l : List Int) : Int := l.foldl (· + ·) 0
theorem byt_bd (n : Int) (i : Nat) : 0 ≤ byt n i ∧ byt n i ≤ 255 := by
  unfold byt
  have h1 := Int.emod_nonneg (n / 2 ^ (8 * i)) (show (256 : Int) ≠ 0 by decide)
  have h2 := Int.emod_lt_of_pos (n / 2 ^ (8 * i)) (show (0 : Int) < 256 by decide)
  omega
theorem encN_len (wd : Nat) (n : Int) : (encN wd n).length = wd := by simp [encN]
theorem encN_take {wd j : Nat} (n : Int) (h : j < wd) : (encN wd n).take (j + 1) = (encN wd n).take j ++ [byt n (wd - 1 - j)] := by
  rw [List.take_succ_eq_append_getElem (by rw [encN_len]; exact h)]
  simp [encN]
theorem encs_take {wd k : Nat} {l : List Int} (h : k < l.length) : encs wd (l.take (k + 1)) = encs wd (l.take k) ++ encN wd (l.getD k 0) := by
  unfold encs
  rw [List.take_succ_eq_append_getElem h, List.flatMap_append]
  simp [h]
theorem encs_len (wd : Nat) (l : List Int) : (encs wd l).length = wd * l.length := by
  unfold encs
  induction l with
  | nil => rfl
  | cons x r ih => rw [List.flatMap_cons, List.length_append, ih, encN_len, List.length_cons, Nat.mul_succ, Nat.add_comm]
theorem sumL_snoc (l : List Int) (x : Int) : sumL (l ++ [x]) = sumL l + x := by simp [sumL]
theorem foldl_add : ∀ (l : List Int) (s : Int), l.foldl (· + ·) s = s + sumL l
  | [], s => by simp [sumL]
  | x :: l, s => by
    unfold sumL
    rw [List.foldl_cons, List.foldl_cons, foldl_add l, foldl_add l (0 + x)]
    omega
theorem sumL_app (a b : List Int) : sumL (a ++ b) = sumL a + sumL b := by
  unfold sumL
  rw [List.foldl_append, foldl_add]
  rfl
/-- Bytes. -/
def IsBy (l : List Int) : Prop := ∀ x ∈ l, 0 ≤ x ∧ x ≤ 255
theorem IsBy.app {a b : List Int} (h : IsBy a) (k : IsBy b) : IsBy (a ++ b) := fun x hx => (List.mem_append.1 hx).elim (h x) (k x)
theorem encN_by (wd : Nat) (n : Int) : IsBy (encN wd n) := fun x hx => by
  obtain ⟨j, -, rfl⟩ := List.mem_map.1 hx
  exact byt_bd _ _
theorem encs_by (wd : Nat) (l : List Int) : IsBy (encs wd l) := fun x hx => by
  obtain ⟨n, -, h⟩ := List.mem_flatMap.1 hx
  exact encN_by wd n x h
theorem sumL_bd : ∀ (l : List Int), IsBy l → 0 ≤ sumL l ∧ sumL l ≤ 255 * l.length
  | [], _ => by simp [sumL]
  | x :: l, h => by
    have h1 := h x (by simp)
    have h2 := sumL_bd l fun y hy => h y (by simp [hy])
    rw [show x :: l = [x] ++ l from rfl, sumL_app, show sumL [x] = x by simp [sumL]]
    simp
    omega
theorem row_grown {w w' : World} {base e s n : Nat} {v : Value} {xs : List Value} {row : Option Nat} (h : w.ownsRow base e s v n xs) (hg : w.grownBy w' row) (hne : ∀ k, v.ownBlock = some k → row ≠ some k) : w'.ownsRow base e s v n xs := by
  refine ⟨h.1, ?_⟩
  rcases h.2 with h0 | ⟨g, cap, cur, h1, h2, h3, h4⟩
  · exact .inl h0
  · exact .inr ⟨g, cap, cur, h1, h2, (hg.block g (Array.getElem?_eq_some_iff.1 h3).1 (fun e => hne g (by rw [h1]; rfl) e.symm)).trans h3, h4⟩
theorem row_type {w : World} {b1 b2 e1 e2 s1 s2 n1 n2 k : Nat} {v1 v2 : Value} {x1 x2 : List Value} (h1 : w.ownsRow b1 e1 s1 v1 n1 x1) (h2 : w.ownsRow b2 e2 s2 v2 n2 x2) (he : e1 ≠ e2) (hk : v1.ownBlock = some k) : v2.ownBlock ≠ some k := fun hk2 => by
  rcases h1.2 with ⟨e, -⟩ | ⟨g, cp, cur, e, -, p1, -⟩
  · rw [e] at hk; cases hk
  · rcases h2.2 with ⟨f, -⟩ | ⟨g', cp', cur', f, -, p2, -⟩
    · rw [f] at hk2; cases hk2
    · rw [e] at hk; rw [f] at hk2
      cases hk; cases hk2
      rw [p1] at p2
      simp at p2
      exact he p2.2
theorem row_own {w : World} {base e s : Nat} {v : Value} {n k : Nat} {xs : List Value} (h : w.ownsRow base e s v n xs) (hk : v.ownBlock = some k) : base ≤ k := by
  rcases h.2 with ⟨h1, -⟩ | ⟨g, cap, cur, h1, h2, -⟩
  · rw [h1] at hk; cases hk
  · rw [h1] at hk; cases hk; exact h2
theorem one_at {W : World} {g : Nat} {x : Value} (h : Cs W g #[x]) : ∀ j u, ([x] : List Value)[j]? = some u → W.cell? ((⟨g, 0, none⟩ : Addr).add j) = some u := fun j u hu => by
  rw [Go.WideShapes.add_plain, Nat.zero_add]
  exact h.c j (by simpa using hu)
theorem infoBy : (Try.prog.info? 5).map (fun i => (i.zero, i.size, i.bytes)) = some (some (.int .u8 0), 1, 1) := by kernel_rfl
/-- Blocks below n0 but for one are as they were. -/
def Blw (B n0 : Nat) (w w' : World) : Prop := Below B w w' ∧ ∀ k, B < k → k < n0 → w'.heap[k]? = w.heap[k]?
theorem Blw.refl (B n0 : Nat) (w : World) : Blw B n0 w w := ⟨Below.refl _ _, fun _ _ _ => rfl⟩
theorem Blw.trans {B n0 : Nat} {a b c : World} (h : Blw B n0 a b) (k : Blw B n0 b c) : Blw B n0 a c := ⟨h.1.trans k.1, fun j h1 h2 => (k.2 j h1 h2).trans (h.2 j h1 h2)⟩
theorem Blw.of_below {B n0 : Nat} {w w' : World} (h : Below n0 w w') (hB : B ≤ n0) : Blw B n0 w w' := ⟨h.mono hB, fun k _ h2 => h.block k h2⟩
theorem Blw.set {B n0 j : Nat} {w w' : World} {v : Value} (h : Blw B n0 w w') : Blw B n0 w (w'.setCell ⟨B, j, none⟩ v) :=
  ⟨h.1.setCell (p := ⟨B, j, none⟩) (Nat.le_refl _) v, fun k h1 h2 => (Below.heap_setCell w' ⟨B, j, none⟩ v k (by simp; omega)).trans (h.2 k h1 h2)⟩
theorem Cs.blw {B n0 F : Nat} {w w' : World} {vs : Array Value} (h : Cs w F vs) (hb : Blw B n0 w w') (h1 : B < F) (h2 : F < n0) : Cs w' F vs := by
  have e := hb.2 F h1 h2
  refine ⟨fun j hj => (World.cell?_of_block (a := ⟨F, j, none⟩) e).trans (h.1 j hj), fun j hj => ?_, Nat.lt_of_lt_of_le h.2.2 hb.1.size⟩
  have := h.2.1 j hj
  unfold World.frozen? at this ⊢
  rw [e]
  exact this
/-- A buffer: its bytes and their sum. -/
def Buf (n0 B : Nat) (bs : List Int) (s : Int) (W : World) : Prop := ∃ bv, Cs W B #[bv, .int .i64 s] ∧ W.ownsRow n0 5 1 bv bs.length (bs.map (Value.int .u8))
theorem Cs.low {w w1 : World} {n N : Nat} {vs : Array Value} (h : Cs w n vs) (hb : Below N w w1) (hn : n < N) : Cs w1 n vs :=
  ⟨fun j hj => (hb.cell hn).trans (h.1 j hj), fun j hj => (hb.frozen hn).trans (h.2.1 j hj), Nat.lt_of_lt_of_le h.2.2 hb.size⟩
set_option maxRecDepth 100000 in
set_option maxHeartbeats 8000000 in
theorem put_any (n0 B wd : Nat) (bs : List Int) (s : Int) (v : Value) (l : List Int) (w : World) (hb : Buf n0 B bs s w) (hr : w.ownsRow n0 3 1 v l.length (l.map (Value.int .i64))) (hB : B < n0) (hn : n0 ≤ w.heap.size) (h1 : 1 ≤ wd) (h4 : wd ≤ 4) (hl : l.length ≤ 40) (hbl : bs.length ≤ 1000) (hs : 0 ≤ s ∧ s ≤ 1000000000) (hnn : ∀ x ∈ l, 0 ≤ x ∧ x < 9223372036854775807) :
    Calls Try.prog 53 #[.pointer (some ⟨B, 0, none⟩), .int .i64 wd, v] w fun e w' => e = .returned (.tuple #[]) ∧ Buf n0 B (bs ++ encs wd l) (s + sumL (encs wd l)) w' ∧ Blw B n0 w w' := by
  obtain ⟨a, cap, rfl⟩ := row_slice hr
  obtain ⟨i0, hi, hz0, hz1, hz2⟩ := info_parts infoBy
  have HI := Lib.hid (show _ ∧ _ ∧ _ ∧ _ from ⟨hi, hz0, hz1, hz2⟩)
  have HBU := Lib.hid hb
  have HR0 := Lib.hid hr
  have HBN := Lib.hid (show B < n0 ∧ n0 ≤ w.heap.size from ⟨hB, hn⟩)
  have HWD := Lib.hid (show 1 ≤ wd ∧ wd ≤ 4 from ⟨h1, h4⟩)
  have HL := Lib.hid (show l.length ≤ 40 ∧ bs.length ≤ 1000 from ⟨hl, hbl⟩)
  have HS := Lib.hid hs
  have HNN := Lib.hid hnn
  clear hi hz0 hz1 hz2 hb hr hB hn hbl hs hnn h1 h4 hl
  go_enter Try.func53, Try.ntmps53
  go_wp2_with fail
  go_loopw [12] (fun kv wr => ∃ k : Nat, k ≤ l.length ∧ kv = .int .i64 k ∧ Hid (Buf n0 B (bs ++ encs wd (l.take k)) (s + sumL (encs wd (l.take k))) wr) ∧ Hid (wr.ownsRow n0 3 1 (.slice a l.length cap) l.length (l.map (Value.int .i64))) ∧ Hid (Blw B n0 w wr)) (fun kv _ => l.length - (intOf kv).toNat)
  case atStart => exact ⟨0, by omega, rfl, Lib.hid (by rw [List.take_zero]; simpa [encs, sumL] using HBU.out), HR0, Lib.hid (Blw.refl _ _ _)⟩
  case round =>
    clear HBU HR0
    obtain ⟨k, hk, rfl, HU, HR, HW⟩ := hrel
    have HKL := Lib.hid (show k ≤ 40 ∧ k ≤ l.length by have := HL.out.1; omega)
    have hkw : wrap64 ((k : Int) + 1) = k + 1 := IntWalk.wrap64_in _ (by have := HKL.out; omega)
    have HK8 := Lib.hid (show ((k + 1 : Nat) : Int) = (k : Int) + 1 by omega)
    by_cases hlt : k < l.length
    · have HLT := Lib.hid hlt
      have t1 : (k : Int) < l.length := by omega
      have t2 : decide ((k : Int) < l.length) = true := by simp; omega
      have t3 : (0 : Int) ≤ k := by omega
      have hx := HR.out
      obtain ⟨g, rfl⟩ : ∃ g, a = some ⟨g, 0, none⟩ := by
        rcases hx.2 with ⟨-, e⟩ | ⟨g, cp, cur, e, -⟩
        · exfalso; omega
        · exact ⟨g, by simp at e; exact e.1⟩
      have y0 := hx.cells (g := g) rfl k (.int .i64 (l.getD k 0)) (by rw [List.getElem?_map, getD_of hlt]; rfl)
      rw [Go.WideShapes.add_plain, Nat.zero_add] at y0
      have HT := Lib.hid (encs_take (wd := wd) hlt)
      have HX := Lib.hid (HNN.out (l.getD k 0) (List.mem_of_getElem? (getD_of hlt)))
      clear hx hk
      obtain ⟨x, hx⟩ : ∃ x, l.getD k 0 = x := ⟨_, rfl⟩
      rw [hx] at y0 HT HX
      clear hx
      obtain ⟨bm, hbm⟩ : ∃ z, bs ++ encs wd (l.take k) = z := ⟨_, rfl⟩
      obtain ⟨sm, hsm⟩ : ∃ z, s + sumL (encs wd (l.take k)) = z := ⟨_, rfl⟩
      have HBM := Lib.hid (show bs ++ encs wd (l.take (k + 1)) = bm ++ encN wd x ∧ s + sumL (encs wd (l.take (k + 1))) = sm + sumL (encN wd x) from ⟨by rw [HT.out, ← List.append_assoc, hbm], by rw [HT.out, sumL_app, ← hsm]; omega⟩)
      have HBL := Lib.hid (show bm.length ≤ 1160 ∧ 0 ≤ sm ∧ sm ≤ 1000050000 by
        rw [← hbm, ← hsm, List.length_append, encs_len, List.length_take]
        have q1 := sumL_bd _ (encs_by wd (l.take k))
        rw [encs_len, List.length_take] at q1
        have q2 := HL.out
        have q3 := HWD.out.2
        have q4 := HS.out
        have q5 : wd * min k l.length ≤ 4 * 40 := Nat.mul_le_mul q3 (by omega)
        generalize wd * min k l.length = q at *
        omega)
      rw [hbm, hsm] at HU
      clear hbm hsm HT
      have w4 := HWD.out.2
      have w0 := HWD.out.1
      obtain ⟨wm, hwm⟩ : ∃ z : Int, (wd : Int) - 1 = z := ⟨_, rfl⟩
      have hwd : wrap64 ((wd : Int) - 1) = wm := by rw [IntWalk.wrap64_in _ (by omega)]; exact hwm
      replace hwm := Lib.hid hwm
      replace w0 := Lib.hid w0
      replace w4 := Lib.hid w4
      go_wp2_with fail
      try rw [hwd]
      clear t1 t2 t3 y0 hwd
      obtain ⟨W2, hW2⟩ : ∃ z, z = wr := ⟨_, rfl⟩
      subst hW2
      go_loopw [8] (fun iv wr => ∃ j : Nat, j ≤ wd ∧ iv = .int .i64 (wm - (j : Int)) ∧ Hid (Buf n0 B (bm ++ (encN wd x).take j) (sm + sumL ((encN wd x).take j)) wr) ∧ Hid (wr.ownsRow n0 3 1 (.slice (some ⟨g, 0, none⟩) l.length cap) l.length (l.map (Value.int .i64))) ∧ Hid (Blw B n0 w wr)) (fun iv _ => (intOf iv + 1).toNat)
      case atStart => exact ⟨0, by omega, by simp, Lib.hid (by simpa [sumL] using HU.out), HR, HW⟩
      case round =>
        clear HU HR HW
        obtain ⟨j, hj, rfl, HU, HR, HW⟩ := hrel
        by_cases hjw : j < wd
        · have HJW := Lib.hid hjw
          obtain ⟨i, hi⟩ : ∃ i : Nat, wm - (j : Int) = i := ⟨wd - 1 - j, by have := hwm.out; omega⟩
          have HII := Lib.hid (show i = wd - 1 - j by have := hwm.out; omega)
          rw [hi]
          have hi4 : i ≤ 3 := by have := w4.out; have := hwm.out; omega
          have e1 : wrap64 (8 * (i : Int)) = 8 * i := IntWalk.wrap64_in _ (by omega)
          have e2 : wrap64 ((i : Int) - 1) = i - 1 := IntWalk.wrap64_in _ (by omega)
          have e3 : 0 ≤ (i : Int) := by omega
          have HTK := Lib.hid (encN_take x hjw)
          obtain ⟨cur, hcur⟩ : ∃ z, bm ++ (encN wd x).take j = z := ⟨_, rfl⟩
          obtain ⟨sc, hsc⟩ : ∃ z, sm + sumL ((encN wd x).take j) = z := ⟨_, rfl⟩
          have HBY := Lib.hid (show 0 ≤ (x / 2 ^ (8 * i) % 256) ∧ (x / 2 ^ (8 * i) % 256) ≤ 255 from byt_bd x i)
          have HCU := Lib.hid (show bm ++ (encN wd x).take (j + 1) = cur ++ [(x / 2 ^ (8 * i) % 256)] ∧ sm + sumL ((encN wd x).take (j + 1)) = sc + (x / 2 ^ (8 * i) % 256) from by
            rw [HTK.out, ← HII.out]
            exact ⟨by rw [← List.append_assoc, hcur]; rfl, by rw [sumL_snoc, ← hsc]; show sm + (_ + byt x i) = _ + byt x i; omega⟩)
          have HCL := Lib.hid (show cur.length ≤ 1170 ∧ 0 ≤ sc ∧ sc ≤ 1000060000 by
            rw [← hcur, ← hsc, List.length_append, List.length_take, encN_len]
            have q1 := sumL_bd _ (show IsBy ((encN wd x).take j) from fun y hy => encN_by wd x y (List.mem_of_mem_take hy))
            rw [List.length_take, encN_len] at q1
            have q2 := HBL.out
            have q3 := w4.out
            omega)
          have hu := HU.out
          rw [hcur, hsc] at hu
          obtain ⟨bv, hC, hrow⟩ := hu
          have q3 : wrap64 (sc + (x / 2 ^ (8 * i) % 256)) = sc + (x / 2 ^ (8 * i) % 256) := IntWalk.wrap64_in _ (by have := HCL.out; have := HBY.out; omega)
          have q4 := HBY.out.1
          have q5 := HBY.out.2
          have HRW := Lib.hid hrow
          have HCC := Lib.hid hC
          have HSZ := Lib.hid (show n0 ≤ wr.heap.size from Nat.le_trans HBN.out.2 HW.out.1.size)
          clear hcur hsc HTK HU
          obtain ⟨ba, bc, rfl⟩ := row_slice hrow
          have x0 := hC.c 0 rfl
          have x1 := hC.c 1 rfl
          have f0 := hC.f 0 (by simp)
          have f1 := hC.f 1 (by simp)
          have xz := hC.2.2
          have HB2 := Lib.hid (show Below n0 wr (wr.alloc (.cells #[.int .u8 (x / 2 ^ (8 * i) % 256)] 5)) from (Below.refl _ _).alloc HSZ.out _)
          have HR2 := Lib.hid (row_step hrow (al wr (.cells #[.int .u8 (x / 2 ^ (8 * i) % 256)] 5)))
          have k1 : cur.length + 1 ≤ maxLen := by have := HCL.out; unfold maxLen; omega
          have k2 : (cur.length + 1) * 1 ≤ 140737488355328 := by have := HCL.out; omega
          have k3 := Lib.hid (Nat.le_trans HSZ.out (al wr (.cells #[.int .u8 (x / 2 ^ (8 * i) % 256)] 5)).size)
          clear hj hjw hC hrow
          have HHI := Lib.hid hi
          clear hi
          go_wp2_with (at_builtin; refine wpList_append_own _ rfl _ _ 25 rfl n0 5 i0 (.int .u8 0) 1 1 Try.underlying25 HI.out.1 HI.out.2.1 HI.out.2.2.1 HI.out.2.2.2 rfl (by decide) _ _ _ rfl HR2.out ⟨wr.heap.size, 0, none⟩ 1 1 [.int .u8 (x / 2 ^ (8 * i) % 256)] rfl rfl (one_at (Cs.new _ _ _ _ rfl)) (by simp [Value.oneCell']) k1 k2 k3.out ?_; intro v' w1 hown' hgrow hnil; clear hnil; obtain ⟨va, vc, rfl⟩ := row_slice hown'; have HG := Lib.hid hgrow; have HR1 := Lib.hid hown'; have HB1 := Lib.hid (HB2.out.grown hgrow k3.out (fun k e => row_own HR2.out e)); have HC1 := Lib.hid (HCC.out.low HB1.out HBN.out.1); have z0 := HC1.out.c 0 rfl; have z1 := HC1.out.c 1 rfl; have y0 := HC1.out.f 0 (by simp); have y1 := HC1.out.f 1 (by simp); have yz := HC1.out.2.2; clear hown' hgrow)
          clear x0 x1 f0 f1 xz z0 z1 y0 y1 yz k1 k2 q4 q5
          have HRN := Lib.hid (show ((w1.setCell ⟨B, 0, none⟩ (.slice va (cur.length + 1) vc)).setCell ⟨B, 1, none⟩ (.int .i64 (sc + (x / 2 ^ (8 * i) % 256)))).ownsRow n0 3 1 (.slice (some ⟨g, 0, none⟩) l.length cap) l.length (l.map (Value.int .i64)) from ownsRow_setCell_below (ownsRow_setCell_below (row_grown (row_step HR.out (al wr (.cells #[.int .u8 (x / 2 ^ (8 * i) % 256)] 5))) HG.out (fun k e => row_type (row_step HR.out (al wr (.cells #[.int .u8 (x / 2 ^ (8 * i) % 256)] 5))) HR2.out (by decide) e)) (a := ⟨B, 0, none⟩) HBN.out.1 _) (a := ⟨B, 1, none⟩) HBN.out.1 _)
          have HBF := Lib.hid (show Buf n0 B (cur ++ [(x / 2 ^ (8 * i) % 256)]) (sc + (x / 2 ^ (8 * i) % 256)) ((w1.setCell ⟨B, 0, none⟩ (.slice va (cur.length + 1) vc)).setCell ⟨B, 1, none⟩ (.int .i64 (sc + (x / 2 ^ (8 * i) % 256)))) from ⟨.slice va (cur.length + 1) vc, Cs.set (Cs.set HC1.out 0 (by simp) (.slice va (cur.length + 1) vc) rfl) 1 (by simp) (.int .i64 (sc + (x / 2 ^ (8 * i) % 256))) (vs' := #[.slice va (cur.length + 1) vc, .int .i64 (sc + (x / 2 ^ (8 * i) % 256))]) rfl, ownsRow_setCell_below (ownsRow_setCell_below (by rw [List.length_append, List.map_append]; exact HR1.out) (a := ⟨B, 0, none⟩) HBN.out.1 _) (a := ⟨B, 1, none⟩) HBN.out.1 _⟩)
          have HWF := Lib.hid (show Blw B n0 w ((w1.setCell ⟨B, 0, none⟩ (.slice va (cur.length + 1) vc)).setCell ⟨B, 1, none⟩ (.int .i64 (sc + (x / 2 ^ (8 * i) % 256)))) from ((HW.out.trans (Blw.of_below HB1.out (Nat.le_of_lt HBN.out.1))).set).set)
          clear HR1 HC1 HB1 HG HRW HCC HR2 HB2
          go_roundw
          case rel => exact ⟨j + 1, HJW.out, by (first | rw [e2] | skip); have h := HHI.out; (first | rw [← h] | skip); congr 1; omega, Lib.hid (by rw [HCU.out.1, HCU.out.2]; exact HBF.out), HRN, HWF⟩
          case measure => (first | rw [e2] | skip); simp [intOf] <;> omega
        · obtain rfl : j = wd := by omega
          have HEN := Lib.hid (show (encN j x).take j = encN j x from List.take_of_length_le (by rw [encN_len]; exact Nat.le_refl _))
          have HU2 := Lib.hid (show Buf n0 B (bm ++ encN j x) (sm + sumL (encN j x)) wr from by have h := HU.out; rw [HEN.out] at h; exact h)
          have u1 : decide (0 ≤ wm - (j : Int)) = false := by have := hwm.out; simp; omega
          have u2 : decide (wm - (j : Int) ≥ 0) = false := by have := hwm.out; simp; omega
          have u3 : ¬ (0 ≤ wm - (j : Int)) := by have := hwm.out; omega
          clear HU HEN hj hjw
          go_wp2
          go_roundw
          case rel => exact ⟨k + 1, HLT.out, by first | rw [hkw, HK8.out] | rw [HK8.out], Lib.hid (by rw [HBM.out.1, HBM.out.2]; exact HU2.out), HR, HW⟩
          case measure => have h2 := HLT.out; have h3 := HK8.out; (first | rw [hkw] | skip); simp [intOf]; omega
    · obtain rfl : k = l.length := by omega
      have HU2 := Lib.hid (show Buf n0 B (bs ++ encs wd l) (s + sumL (encs wd l)) wr from by have h := HU.out; rw [List.take_length] at h; exact h)
      have t2 : decide ((l.length : Int) < l.length) = false := by simp
      clear HU hk hlt
      go_wp2
      first | exact bodyPost_ret (results_none rfl _ _ _) rfl ⟨rfl, HU2.out, HW.out⟩ | (go_end0; exact ⟨rfl, HU2.out, HW.out⟩)
end Go.Proofs.Ytebeaekiaikgmaa
