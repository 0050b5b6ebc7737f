import Derived.Sort.CutIn
import Derived.Sort.QuietTacIn
import Derived.Test.YteodafhgfcbdpaaUf
namespace Go.Proofs.Yteodafhgfcbdpaa
open Go.RowKit
attribute [local go_sem] Oper.semAt_some

/-- How many chunks; one of them; all. -/
def chN (n s : Nat) : Nat := (n + s - 1) / s
def chk (s : Nat) (D : List Int) (k : Nat) : List Int := (D.drop (k * s)).take s
def chL (s : Nat) (D : List Int) : List (List Int) := (List.range (chN D.length s)).map (chk s D)
def chZ (n s k : Nat) : Nat := min s (n - k * s)
theorem chk_len (s : Nat) (D : List Int) (k : Nat) : (chk s D k).length = chZ D.length s k := by unfold chk chZ; simp
theorem chN_lt {n s k : Nat} (hs : 1 ≤ s) : k < chN n s ↔ k * s < n := by
  unfold chN
  rw [Nat.lt_div_iff_mul_lt (by omega)]
  constructor
  · intro h; have e : s * k = k * s := Nat.mul_comm _ _; omega
  · intro h; have e : s * k = k * s := Nat.mul_comm _ _; omega
theorem chN_le (n s : Nat) : chN n s ≤ n := by
  by_cases hs : 1 ≤ s
  · by_cases h : chN n s ≤ n
    · exact h
    · have h2 := (chN_lt (n := n) (k := n) hs).1 (by omega)
      have : n * 1 ≤ n * s := Nat.mul_le_mul_left n hs
      omega
  · obtain rfl : s = 0 := by omega
    unfold chN; simp
theorem chL_len (s : Nat) (D : List Int) : (chL s D).length = chN D.length s := by simp [chL]
theorem chL_get {s : Nat} {D : List Int} {k : Nat} (h : k < chN D.length s) : (chL s D).getD k [] = chk s D k := by
  unfold chL
  rw [List.getD_eq_getElem?_getD, List.getElem?_map, List.getElem?_range h]; rfl
theorem chk_at {w : World} {b off cap s k : Nat} {D : List Int} (h : IntsAt w (.slice (some ⟨b, off, none⟩) D.length cap) D) (hk : k * s < D.length) : IntsAt w (.slice (some ⟨b, off + k * s, none⟩) (chZ D.length s k) (chZ D.length s k)) (chk s D k) := by
  obtain ⟨a, c, e, hm, h⟩ := h
  obtain ⟨b2, o2, e2, hx⟩ := h (by intro q; rw [q] at hk; simp at hk)
  have e3 : some (⟨b, off, none⟩ : Addr) = a := by simp at e; exact e.1
  obtain ⟨rfl, rfl⟩ : b = b2 ∧ off = o2 := by rw [e2] at e3; simpa using e3
  refine ⟨some ⟨b, off + k * s, none⟩, chZ D.length s k, by rw [chk_len], by rw [chk_len]; unfold chZ; omega, fun _ => ⟨b, off + k * s, rfl, fun i x hi => ?_⟩⟩
  have h1 : D[k * s + i]? = some x := by
    unfold chk at hi
    rw [List.getElem?_take] at hi
    split at hi
    · rw [List.getElem?_drop] at hi; exact hi
    · cases hi
  have := hx _ _ h1
  rw [Nat.add_assoc]
  exact this
def fins (n k : Nat) : List (Fin n) := (List.finRange n).take k
theorem fins_succ {n k : Nat} (h : k < n) : fins n (k + 1) = fins n k ++ [⟨k, h⟩] := by
  unfold fins
  rw [List.take_succ_eq_append_getElem (by simpa using h)]
  simp
theorem fins_len (n k : Nat) (h : k ≤ n) : (fins n k).length = k := by unfold fins; simp [h]
theorem fins_pre (n k : Nat) : fins n k <+: List.finRange n := List.take_prefix _ _
theorem fins_all (n : Nat) : fins n n = List.finRange n := by unfold fins; rw [List.take_of_length_le (by simp)]
theorem ck_a {n p s : Nat} (q : n - p < s) (h7 : p < n) (h9 : n ≤ 5000) : ((n - p : Nat) : Int) < (s : Int) ∧ wrap64 ((p : Int) + ((n - p : Nat) : Int)) = (p : Int) + ((n - p : Nat) : Int) ∧ ((p : Int) + ((n - p : Nat) : Int)).toNat - p = n - p ∧ min s (n - p) = n - p :=
  ⟨by omega, IntWalk.wrap64_in _ (by omega), by omega, by omega⟩
theorem ck_b {n p s : Nat} (q : ¬ n - p < s) (h7 : p < n) (h9 : n ≤ 5000) (g2 : s ≤ 32) : ¬ ((n - p : Nat) : Int) < (s : Int) ∧ wrap64 ((p : Int) + (s : Int)) = (p : Int) + (s : Int) ∧ ((p : Int) + (s : Int)).toNat - p = s ∧ min s (n - p) = s :=
  ⟨by omega, IntWalk.wrap64_in _ (by omega), by omega, by omega⟩
theorem ck_c {n p s : Nat} (h7 : p < n) (h9 : n ≤ 5000) (g1 : 1 ≤ s) (g2 : s ≤ 32) : wrap64 ((p : Int) + (s : Int)) = (p : Int) + (s : Int) ∧ n + 40 - ((p : Int) + (s : Int)).toNat < n + 40 - ((p : Int)).toNat :=
  ⟨IntWalk.wrap64_in _ (by omega), by omega⟩
/-- What the iterator hands over. -/
def cvl (b off s n : Nat) (k : Nat) : Value := .slice (some ⟨b, off + k * s, none⟩) (chZ n s k) (chZ n s k)
set_option maxRecDepth 100000 in
set_option maxHeartbeats 8000000 in
theorem iterC (D : List Int) (b off cap s : Nat) (w0 : World) (hD : IntsAt w0 (.slice (some ⟨b, off, none⟩) D.length cap) D) (hs1 : 1 ≤ s) (hs2 : s ≤ 32) (hn9 : D.length ≤ 5000) (hcap : D.length ≤ cap) (n : Nat) (hn : 1 ≤ n) (lp B1 B2 : Nat) (J Jx : List (Fin (chN D.length s)) → World → Prop)
    (hY : ∀ pre x W, J pre W → pre.length < chN D.length s → YieldAt Fence.wide (n - 1) Try.prog lp #[cvl b off s D.length x.1] W fun e W' =>
      (e = .returned (.bool true) ∧ J (pre ++ [x]) W' ∧ Below w0.heap.size W W') ∨ (e = .returned (.bool false) ∧ Jx (pre ++ [x]) W'))
    (W : World) (hA : AbidesFrom W.heap.size J) (hB0 : Below w0.heap.size w0 W) (hx1 : BoxN w0 B1 #[.slice (some ⟨b, off, none⟩) D.length cap] 22) (hx2 : BoxN w0 B2 #[.int .i64 s] 3) (h0 : J [] W) :
    CallsIn Fence.wide n Try.prog 66 #[.func (.yield lp) #[] #[], .pointer (some ⟨B1, 0, none⟩), .pointer (some ⟨B2, 0, none⟩)] W fun e W' => (∃ v, e = .returned v) ∧
      ((∃ ys, ys = List.finRange (chN D.length s) ∧ J ys W') ∨ (∃ pre, pre <+: List.finRange (chN D.length s) ∧ Jx pre W')) := by
  have HD := Lib.hid hD
  have HY := Lib.hid hY
  have HB0 := Lib.hid hB0
  have H1 := Lib.hid hx1
  have H2 := Lib.hid hx2
  have HJ0 := Lib.hid (show ∀ s A B, J s A → Below A.heap.size A B → J s B from fun s A B h hb => hA s A B none h (grown_of_below hb) (by simp))
  have HJ := Lib.hid h0
  have HN9 := Lib.hid hn9
  have HCP := Lib.hid hcap
  have HS1 := Lib.hid hs1
  have HS2 := Lib.hid hs2
  obtain ⟨c, hc⟩ : ∃ z9, chN D.length s = z9 := ⟨_, rfl⟩
  have HLT := Lib.hid (show ∀ k, k < c ↔ k * s < D.length from fun k => by rw [← hc]; exact chN_lt hs1)
  have HCL := Lib.hid (show c ≤ 5000 by rw [← hc]; exact Nat.le_trans (chN_le _ _) hn9)
  subst hc
  clear hD hY hA hB0 hx1 hx2 h0 hn9 hcap hs1 hs2
  refine callsIn_of_wp Try.func66 rfl trivial ?_ rfl
  simp only [Try.ntmps66, List.size_toArray, List.length_cons, List.length_nil, Nat.reduceAdd, Nat.reduceSub, Array.replicate_succ, Array.replicate_zero, List.push_toArray, List.append_toArray, List.nil_append, List.cons_append]
  gi_wp2_with fail
  gi_loopw [4] (fun iv wr => ∃ k : Nat, k ≤ chN D.length s ∧ iv = .int .i64 ((k * s : Nat) : Int) ∧ Hid (J (fins (chN D.length s) k) wr) ∧ Hid (Below w0.heap.size w0 wr)) (fun iv _ => D.length + 40 - (intOf iv).toNat)
  case atStart => exact ⟨0, by omega, by simp, Lib.hid HJ.out, HB0⟩
  case round =>
    clear HJ HB0
    obtain ⟨k, hk, rfl, HJ, HB⟩ := hrel
    have HX1 := Lib.hid (H1.out.step HB.out)
    have HX2 := Lib.hid (H2.out.step HB.out)
    have c1 := (HX1.out.cell 0).trans (rfl : _ = some (Value.slice (some ⟨b, off, none⟩) D.length cap))
    have c2 := (HX2.out.cell 0).trans (rfl : _ = some (Value.int .i64 (s : Int)))
    have l1 := HX1.out.lt
    have l2 := HX2.out.lt
    by_cases hlt : k < chN D.length s
    · have HIL := Lib.hid hlt
      have h7 := (HLT.out k).1 hlt
      have h9 := HN9.out
      have h8 := HCP.out
      have g1 := HS1.out
      have g2 := HS2.out
      have HSUC := Lib.hid (fins_succ hlt)
      have HLEN := Lib.hid (show (fins (chN D.length s) k).length < chN D.length s by rw [fins_len _ _ hk]; exact hlt)
      have HPRE := Lib.hid (fins_pre (chN D.length s) (k + 1))
      have HNX := Lib.hid (show ((k + 1) * s : Nat) = k * s + s from Nat.succ_mul k s)
      have HCV := Lib.hid (show cvl b off s D.length k = .slice (some ⟨b, off + k * s, none⟩) (min s (D.length - k * s)) (min s (D.length - k * s)) from rfl)
      obtain ⟨p, hp⟩ : ∃ z9, k * s = z9 := ⟨_, rfl⟩
      rw [hp] at HNX h7 HCV ⊢
      clear hp
      have t1 : ((p : Nat) : Int) < (D.length : Int) := by omega
      have t2 : ¬ cap = p := by omega
      have t3 : (p : Int) ≤ (D.length : Int) := by omega
      have t4 : (D.length : Int) ≤ (cap : Int) := by omega
      by_cases q : D.length - p < s
      · obtain ⟨t6, t5, t7, q9⟩ := ck_a q h7 h9
        have HCW := Lib.hid (show cvl b off s D.length k = .slice (some ⟨b, off + p, none⟩) (D.length - p) (D.length - p) by rw [HCV.out, q9])
        clear q9
        gi_upto_region 3 with fail
        gi_quiet_th (fail)
        obtain ⟨W3, hW3⟩ : ∃ z9, wr.drewN nq = z9 := ⟨_, rfl⟩
        have b3 : Below wr.heap.size wr W3 := by rw [← hW3]; exact below_drewN' _ _ _
        rw [hW3]
        clear hW3 c1 c2 l1 l2
        have HJ3 := Lib.hid (HJ0.out _ _ _ HJ.out b3)
        have HB3 := Lib.hid (keep2 b3 HB.out)
        have HX3 := Lib.hid (HX1.out.step b3)
        have HY3 := Lib.hid (HX2.out.step b3)
        clear b3 HX1 HX2 HJ HB
        have c1 := (HX3.out.cell 0).trans (rfl : _ = some (Value.slice (some ⟨b, off, none⟩) D.length cap))
        have l1 := HX3.out.lt
        gi_wp2_with fail
        obtain ⟨fn, tmps, assign, body, hy, hRR⟩ := HY.out _ ⟨k, HIL.out⟩ _ HJ3.out HLEN.out
        rw [HCW.out] at hy
        rw [hy]
        gi_wp2
        refine hRR.mono ?_
        rintro e W4 (⟨rfl, hJ4, hk4⟩ | ⟨rfl, hJx4⟩)
        · have HJ4 := Lib.hid hJ4
          have HB4 := Lib.hid (HB3.out.trans hk4)
          clear hJ4 hk4 hRR hy HX3 HY3 HB3 HJ3 c1 l1 t6 t5 t7
          have HY4 := Lib.hid (H2.out.step HB4.out)
          have c2 := (HY4.out.cell 0).trans (rfl : _ = some (Value.int .i64 (s : Int)))
          have l2 := HY4.out.lt
          obtain ⟨t8, q8⟩ := ck_c h7 h9 g1 g2
          have HNX2 := Lib.hid (show (p : Int) + (s : Int) = (((k + 1) * s : Nat) : Int) by rw [HNX.out]; exact (Int.natCast_add _ _).symm)
          have HMS := Lib.hid q8
          clear q8 h7 h8 h9 g1 g2 q t1 t2 t3 t4
          gi_wp2
          go_roundw
          case rel => exact ⟨k + 1, HIL.out, by rw [t8, HNX2.out], by rw [HSUC.out]; exact HJ4, HB4⟩
          case measure => rw [t8]; exact HMS.out
        · gi_wp2
          refine bodyPost_ret (results_none rfl _ _ _) rfl ?_
          exact ⟨⟨_, rfl⟩, .inr ⟨_, by rw [← HSUC.out]; exact HPRE.out, hJx4⟩⟩
      · obtain ⟨t6, t5, t7, q9⟩ := ck_b q h7 h9 g2
        have HCW := Lib.hid (show cvl b off s D.length k = .slice (some ⟨b, off + p, none⟩) s s by rw [HCV.out, q9])
        clear q9
        gi_upto_region 3 with fail
        gi_quiet_th (fail)
        obtain ⟨W3, hW3⟩ : ∃ z9, wr.drewN nq = z9 := ⟨_, rfl⟩
        have b3 : Below wr.heap.size wr W3 := by rw [← hW3]; exact below_drewN' _ _ _
        rw [hW3]
        clear hW3 c1 c2 l1 l2
        have HJ3 := Lib.hid (HJ0.out _ _ _ HJ.out b3)
        have HB3 := Lib.hid (keep2 b3 HB.out)
        have HX3 := Lib.hid (HX1.out.step b3)
        have HY3 := Lib.hid (HX2.out.step b3)
        clear b3 HX1 HX2 HJ HB
        have c1 := (HX3.out.cell 0).trans (rfl : _ = some (Value.slice (some ⟨b, off, none⟩) D.length cap))
        have l1 := HX3.out.lt
        gi_wp2_with fail
        obtain ⟨fn, tmps, assign, body, hy, hRR⟩ := HY.out _ ⟨k, HIL.out⟩ _ HJ3.out HLEN.out
        rw [HCW.out] at hy
        rw [hy]
        gi_wp2
        refine hRR.mono ?_
        rintro e W4 (⟨rfl, hJ4, hk4⟩ | ⟨rfl, hJx4⟩)
        · have HJ4 := Lib.hid hJ4
          have HB4 := Lib.hid (HB3.out.trans hk4)
          clear hJ4 hk4 hRR hy HX3 HY3 HB3 HJ3 c1 l1 t6 t5 t7
          have HY4 := Lib.hid (H2.out.step HB4.out)
          have c2 := (HY4.out.cell 0).trans (rfl : _ = some (Value.int .i64 (s : Int)))
          have l2 := HY4.out.lt
          obtain ⟨t8, q8⟩ := ck_c h7 h9 g1 g2
          have HNX2 := Lib.hid (show (p : Int) + (s : Int) = (((k + 1) * s : Nat) : Int) by rw [HNX.out]; exact (Int.natCast_add _ _).symm)
          have HMS := Lib.hid q8
          clear q8 h7 h8 h9 g1 g2 q t1 t2 t3 t4
          gi_wp2
          go_roundw
          case rel => exact ⟨k + 1, HIL.out, by rw [t8, HNX2.out], by rw [HSUC.out]; exact HJ4, HB4⟩
          case measure => rw [t8]; exact HMS.out
        · gi_wp2
          refine bodyPost_ret (results_none rfl _ _ _) rfl ?_
          exact ⟨⟨_, rfl⟩, .inr ⟨_, by rw [← HSUC.out]; exact HPRE.out, hJx4⟩⟩
    · obtain rfl : k = chN D.length s := by omega
      have h7 : ¬ chN D.length s * s < D.length := fun h => hlt ((HLT.out (chN D.length s)).2 h)
      have HAL := Lib.hid (fins_all (chN D.length s))
      obtain ⟨p, hp⟩ : ∃ z9, chN D.length s * s = z9 := ⟨_, rfl⟩
      rw [hp] at h7 ⊢
      have t1 : ¬ ((p : Nat) : Int) < (D.length : Int) := by omega
      gi_wp2
      go_end0
      first | exact ⟨⟨_, rfl⟩, .inl ⟨_, rfl, by rw [← HAL.out]; exact HJ.out⟩⟩ | exact ⟨⟨_, rfl⟩, .inl (by rw [← HAL.out]; exact HJ.out)⟩
open Go.RowKit
attribute [local go_sem] Oper.semAt_some

theorem stopsC (D : List Int) (b off cap s : Nat) (w0 : World) (hD : IntsAt w0 (.slice (some ⟨b, off, none⟩) D.length cap) D) (hs1 : 1 ≤ s) (hs2 : s ≤ 32) (hn9 : D.length ≤ 5000) (hcap : D.length ≤ cap) (n : Nat) (hn : 1 ≤ n) (B1 B2 : Nat) (w : World) (hB : Below w0.heap.size w0 w) (hx1 : BoxN w0 B1 #[.slice (some ⟨b, off, none⟩) D.length cap] 22) (hx2 : BoxN w0 B2 #[.int .i64 s] 3) :
    SeqStopsK Fence.wide n Try.prog 66 #[.pointer (some ⟨B1, 0, none⟩), .pointer (some ⟨B2, 0, none⟩)] (fun x : Fin (chN D.length s) => #[cvl b off s D.length x.1]) (Below w0.heap.size) (fun ys => ys = List.finRange (chN D.length s)) (fun pre => pre <+: List.finRange (chN D.length s)) (chN D.length s) w := fun lp J Jx W hW hA _ hY h0 =>
  iterC D b off cap s w0 hD hs1 hs2 hn9 hcap n hn lp B1 B2 J Jx hY W hA (hB.trans (hW.mono hB.size)) hx1 hx2 h0
set_option maxRecDepth 100000 in
set_option maxHeartbeats 4000000 in
theorem appseq_in (D : List Int) (b off cap s : Nat) (B1 B2 : Nat) (w : World) (hD : IntsAt w (.slice (some ⟨b, off, none⟩) D.length cap) D) (hs1 : 1 ≤ s) (hs2 : s ≤ 32) (hn9 : D.length ≤ 5000) (hcap : D.length ≤ cap) (h1 : BoxN w B1 #[.slice (some ⟨b, off, none⟩) D.length cap] 22) (h2 : BoxN w B2 #[.int .i64 s] 3) :
    CallsIn Fence.wide 9 Try.prog 65 #[.slice none 0 0, .func (.func 66) #[] #[.pointer (some ⟨B1, 0, none⟩), .pointer (some ⟨B2, 0, none⟩)]] w fun e w' => ∃ u, e = .returned u ∧ w'.ownsRow w.heap.size 22 1 u (chN D.length s) ((List.finRange (chN D.length s)).map fun x => cvl b off s D.length x.1) ∧ Below w.heap.size w w' := by
  have H := Lib.hid hD
  have H1 := Lib.hid h1
  have H2 := Lib.hid h2
  have HN9 := Lib.hid (show chN D.length s ≤ 5000 from Nat.le_trans (chN_le _ _) hn9)
  clear hD h1 h2
  obtain ⟨i0, hi, hz0, hz1, hz2⟩ := info_parts infoSl
  refine callsIn_of_wp_marks Try.func65 rfl trivial ?_ rfl
  simp only [Try.ntmps65, List.size_toArray, List.length_cons, List.length_nil, Nat.reduceAdd, Nat.reduceSub, Array.replicate_succ, Array.replicate_zero, List.push_toArray, List.append_toArray, List.nil_append, List.cons_append]
  gi_wp2_with fail
  have b0 := Boxed.new w 25 (.slice none 0 0)
  have hB0 := al w (.cells #[.slice none 0 0] 25)
  have hsz : (w.alloc (.cells #[.slice none 0 0] 25)).heap.size = w.heap.size + 1 := by simp
  obtain ⟨W0, hW0⟩ : ∃ W0, w.alloc (.cells #[.slice none 0 0] 25) = W0 := ⟨_, rfl⟩
  rw [hW0] at b0 hB0 hsz ⊢
  clear hW0
  refine wpIn_rangeFunc_ownG rfl (by omega) (gf := 66) (lb := #[.pointer (some ⟨B1, 0, none⟩), .pointer (some ⟨B2, 0, none⟩)]) rfl trivial (enters_of Try.func66 (by kernel_rfl) rfl)
    (stopsC D b off cap s w H.out hs1 hs2 hn9 hcap 8 (by omega) B1 B2 W0 hB0 H1.out H2.out) (fun h k => h.trans k) (fun W l o o' hl h hc hw => belowK_b (by omega) W l o o' hl h hc hw) (Below.refl _ _) (fun _ => rfl)
    (fun pre W => (∃ v, Boxed W w.heap.size 25 v ∧ W.ownsRow w.heap.size 22 1 v pre.length (pre.map fun x => cvl b off s D.length x.1) ∧ True) ∧ Below w.heap.size w W)
    (fun _ _ _ => False)
    (OwnFrom.and (Own.from (holdsRow_own w.heap.size w.heap.size 25 22 1 (fun pre : List (Fin (chN D.length s)) => pre.length) (fun pre => pre.map fun x => cvl b off s D.length x.1) (fun _ _ => True)) _) (ownFrom_below (Nat.le_refl _) (by omega)))
    (fun _ _ _ _ _ hs _ _ => hs)
    ⟨⟨_, b0, World.ownsRow_nil _ _ _ _, trivial⟩, hB0⟩
    (fun x => { tmps := #[.slice none 0 0, .func (.func 66) #[] #[.pointer (some ⟨B1, 0, none⟩), .pointer (some ⟨B2, 0, none⟩)], .pointer (some ⟨w.heap.size, 0, none⟩), undef, .slice none 0 0, cvl b off s D.length x.1, .func (.func 66) #[] #[.pointer (some ⟨B1, 0, none⟩), .pointer (some ⟨B2, 0, none⟩)], cvl b off s D.length x.1, undef, undef, undef, undef, undef], defers := [] }) ?assign ?body ?done ?stop
  case assign =>
    intro lp x W K hK
    gi_wp2
    exact hK
  case body =>
    rintro lp pre x W ⟨⟨v, hv, hrow, -⟩, hB⟩ hlt
    have hc := hv.cell
    have hBs := hB.size
    have HV := Lib.hid hv
    have HR := Lib.hid hrow
    have hlt9 : pre.length < 5000 := Nat.lt_of_lt_of_le hlt HN9.out
    clear hv hrow hlt hs1 hs2 hn9 hcap
    obtain ⟨co, cn, hcv⟩ : ∃ co cn, cvl b off s D.length x.1 = .slice (some ⟨b, co, none⟩) cn cn := ⟨_, _, rfl⟩
    have HCV := Lib.hid hcv
    rw [hcv]
    clear hcv
    have HNW := Lib.hid (show ∀ j u, ([.slice (some ⟨b, co, none⟩) cn cn] : List Value)[j]? = some u → (W.alloc (.cells #[.slice (some ⟨b, co, none⟩) cn cn] 22)).cell? ((⟨W.heap.size, 0, none⟩ : Addr).add j) = some u from one_at (Cs.new W W.heap.size #[.slice (some ⟨b, co, none⟩) cn cn] 22 rfl))
    have HC2 := Lib.hid (show ∀ u ∈ ([.slice (some ⟨b, co, none⟩) cn cn] : List Value), u.oneCell' = true from by intro u hu; rw [List.mem_singleton] at hu; rw [hu]; rfl)
    gi_wp2_with (gi_at_builtin; refine wpListIn_append_own _ rfl _ _ 25 rfl w.heap.size 22 i0 (.slice none 0 0) 1 24 Try.underlying25 hi hz0 hz1 hz2 rfl (by decide) _ _ _ rfl (HR.out.alloc _) ⟨W.heap.size, 0, none⟩ 1 1 [.slice (some ⟨b, co, none⟩) cn cn] rfl rfl HNW.out HC2.out (by unfold maxLen; omega) (by omega) (by simp; omega) ?_; intro v' w1 hown' hgrow _; obtain ⟨g', cap', rfl⟩ := ownsRow_succ hown'; obtain ⟨hv1, hv2, hr2, hk2, hb2⟩ := HV.out.appended (by decide) HR.out hBs (Nat.le_refl _) hown' hgrow; have hc1 := hv1.cell; have hf1 := hv1.frozen; clear hown' hgrow hv1)
    exact ⟨hk2.from _, hb2, ⟨_, hv2, by rw [List.map_append, List.length_append, List.map_cons, List.map_nil, HCV.out]; exact hr2, trivial⟩, hB.trans hb2⟩
  case done =>
    rintro D' ys W hD' hys ⟨⟨v, hv, hrow, -⟩, hB⟩ hK
    have hc := hv.cell
    rw [hys, List.length_finRange] at hrow
    have HR2 := Lib.hid hrow
    clear hrow hv hys
    gi_wp2
    refine ⟨by simp, .inl ⟨_, _, rfl, run_takeDeferred hK, ?_⟩⟩
    exact ⟨_, results_tmp rfl _ _ _, v, rfl, ownsRow_putObj HR2.out _ hK rfl, hB.trans (belowK_b (w := w) (Nat.le_refl _) W D' _ _ (by omega) hK rfl rfl)⟩
  case stop =>
    rintro D' c' pre W _ _ h _
    exact h.elim
theorem collect_any (D : List Int) (b off cap s : Nat) (B1 B2 : Nat) (w : World) (hD : IntsAt w (.slice (some ⟨b, off, none⟩) D.length cap) D) (hs1 : 1 ≤ s) (hs2 : s ≤ 32) (hn9 : D.length ≤ 5000) (hcap : D.length ≤ cap) (h1 : BoxN w B1 #[.slice (some ⟨b, off, none⟩) D.length cap] 22) (h2 : BoxN w B2 #[.int .i64 s] 3) :
    Calls Try.prog 34 #[.func (.func 66) #[] #[.pointer (some ⟨B1, 0, none⟩), .pointer (some ⟨B2, 0, none⟩)]] w fun e w' => ∃ u, e = .returned u ∧ RowsAt w' u (chL s D) ∧ Below w.heap.size w w' := by
  have H := Lib.hid (callsIn_wide.1 (appseq_in D b off cap s B1 B2 w hD hs1 hs2 hn9 hcap h1 h2))
  have HD := Lib.hid hD
  clear hD h1 h2
  go_enter Try.func34, Try.ntmps34
  go_wp2_with fail
  refine H.out.mono ?_
  rintro e w1 ⟨u, rfl, hu, b1⟩
  have HU := Lib.hid hu
  have HB := Lib.hid b1
  clear hu b1
  go_wp2
  go_ret
  have hl : (chL s D).length = chN D.length s := chL_len s D
  refine ⟨u, rfl, OwR.rows (n1 := w1.heap.size) (n2 := w.heap.size) ?_, HB.out⟩
  obtain ⟨a, c, rfl⟩ := row_slice HU.out
  rcases HU.out.2 with ⟨e1, e2⟩ | ⟨g, cp, cur, e1, g1, g2, g3, g4, g5, g6⟩
  · have : chL s D = [] := List.length_eq_zero_iff.1 (by rw [hl]; exact e2)
    rw [this, e2]
    exact ⟨a, c, rfl, by simp, fun q => absurd rfl q⟩
  · obtain ⟨rfl, rfl⟩ : a = some ⟨g, 0, none⟩ ∧ c = cp := by simpa using e1
    refine ⟨_, c, by rw [hl], by rw [hl]; omega, fun _ => ⟨g, rfl, g1, (Array.getElem?_eq_some_iff.1 g2).1, fun i hi => ?_⟩⟩
    rw [hl] at hi
    have hc := HU.out.cells (g := g) rfl i (cvl b off s D.length i) (by rw [List.getElem?_map, List.getElem?_eq_getElem (by simpa using hi)]; simp)
    rw [Go.WideShapes.add_plain, Nat.zero_add] at hc
    have hlt := (chN_lt hs1).1 hi
    refine ⟨by simp [World.frozen?, g2], _, hc, by rw [chL_get hi]; exact (chk_at HD.out hlt).step HB.out, fun _ b' off' n' c' e => ?_, by unfold tyB; rw [g2]; rfl⟩
    cases e
    have hb : b < w.heap.size := ints_low HD.out (by intro q; rw [q] at hlt; simp at hlt) b off _ _ rfl
    exact ⟨.inl (Nat.lt_of_lt_of_le hb HB.out.size), by omega⟩
set_option maxRecDepth 100000 in
set_option maxHeartbeats 8000000 in
theorem chunk_any (va : Option Addr) (n cap : Nat) (s : Int) (hs : 1 ≤ s) (w : World) : Calls Try.prog 35 #[.slice va n cap, .int .i64 s] w fun e w' => e = .returned (.func (.func 66) #[] #[.pointer (some ⟨w.heap.size, 0, none⟩), .pointer (some ⟨w.heap.size + 1, 0, none⟩)]) ∧ w' = (w.alloc (.cells #[.slice va n cap] 22)).alloc (.cells #[.int .i64 s] 3) := by
  have t1 : ¬ s < 1 := by omega
  have t2 : decide (s < 1) = false := decide_eq_false t1
  go_enter Try.func35, Try.ntmps35
  go_wp2
  go_ret
  exact ⟨rfl, rfl⟩
end Go.Proofs.Yteodafhgfcbdpaa
