import Derived.Test.YteodafhgfcbdpaaUi
import Derived.Test.YteodafhgfcbdpaaWh
namespace Go.Proofs.Yteodafhgfcbdpaa
open Go.RowKit

/-- What the reference cuts off. -/
def cvr (b off s n c : Nat) (k : Nat) : Value := .slice (some ⟨b, off + k * s, none⟩) (chZ n s k) (c - k * s)
theorem chk_at2 {w : World} {b off cap s k : Nat} {D : List Int} (c : Nat) (h : IntsAt w (.slice (some ⟨b, off, none⟩) D.length cap) D) (hk : k * s < D.length) : IntsAt w (cvr b off s D.length c k) (chk s D k) := by
  obtain ⟨a, c2, e, hm, hx⟩ := chk_at h hk
  obtain ⟨rfl, -⟩ : some (⟨b, off + k * s, none⟩ : Addr) = a ∧ True := by simp at e; exact ⟨e.1, trivial⟩
  exact ⟨_, c - k * s, by unfold cvr; rw [chk_len], hm, hx⟩
theorem rk_a {n p s : Nat} (q : n < p + s) (h9 : n ≤ 5000) (h7 : p < n) (g2 : s ≤ 32) : wrap64 ((p : Int) + (s : Int)) = (p : Int) + (s : Int) ∧ (n : Int) < (p : Int) + (s : Int) ∧ min s (n - p) = n - p :=
  ⟨IntWalk.wrap64_in _ (by omega), by omega, by omega⟩
theorem rk_b {n p s : Nat} (q : ¬ n < p + s) (h9 : n ≤ 5000) (h7 : p < n) (g2 : s ≤ 32) : wrap64 ((p : Int) + (s : Int)) = (p : Int) + (s : Int) ∧ ¬ (n : Int) < (p : Int) + (s : Int) ∧ min s (n - p) = s ∧ ((p : Int) + (s : Int)).toNat - p = s :=
  ⟨IntWalk.wrap64_in _ (by omega), by omega, by omega, by omega⟩
theorem rk_m {n p s : Nat} (h7 : p < n) (h9 : n ≤ 5000) (g1 : 1 ≤ s) (g2 : s ≤ 32) : n + 40 - (intOf (.int .i64 (wrap64 ((p : Int) + (s : Int))))).toNat < n + 40 - (intOf (.int .i64 (p : Int))).toNat := by
  rw [(ck_c h7 h9 g1 g2).1]
  exact (ck_c h7 h9 g1 g2).2
/-- A list of slices, the slices' numbers said of an earlier world. -/
def RowsLo (w0 w : World) (v : Value) (L : List (List Int)) : Prop :=
  ∃ a cap, v = .slice a L.length cap ∧ L.length ≤ maxLen ∧ (L ≠ [] → ∃ b off, a = some ⟨b, off, none⟩ ∧ ∀ (i : Nat) (x : List Int), L[i]? = some x → ∃ u, w.cell? ⟨b, off + i, none⟩ = some u ∧ IntsAt w0 u x)
theorem RowsLo.step {w0 w w1 : World} {v : Value} {L : List (List Int)} (h : RowsLo w0 w v L) (hb : Below w.heap.size w w1) : RowsLo w0 w1 v L := by
  obtain ⟨a, cap, hv, hm, hc⟩ := h
  refine ⟨a, cap, hv, hm, fun hl => ?_⟩
  obtain ⟨b, off, ha, hx⟩ := hc hl
  refine ⟨b, off, ha, fun i x hi => ?_⟩
  obtain ⟨u, h1, h2⟩ := hx i x hi
  exact ⟨u, keep1 hb h1, h2⟩
theorem RowsLo.rows {w0 w : World} {v : Value} {L : List (List Int)} (h : RowsLo w0 w v L) (hb : Below w0.heap.size w0 w) : RowsAt w v L := by
  obtain ⟨a, cap, hv, hm, hc⟩ := h
  refine ⟨a, cap, hv, hm, fun hl => ?_⟩
  obtain ⟨b, off, ha, hx⟩ := hc hl
  refine ⟨b, off, ha, fun i x hi => ?_⟩
  obtain ⟨u, h1, h2⟩ := hx i x hi
  exact ⟨u, h1, h2.step hb⟩
theorem rp_low {D : List Int} {b off vc s k : Nat} {w0 w wr : World} {rv : Value} (HD : IntsAt w0 (.slice (some ⟨b, off, none⟩) D.length vc) D) (HLT : ∀ i, i < k ↔ i * s < D.length) (HC : chN D.length s = k) (HR : wr.ownsRow w.heap.size 22 1 rv k ((List.range k).map (cvr b off s D.length vc))) (h9 : k ≤ 5000) : RowsLo w0 wr rv (chL s D) := by
  have hl : (chL s D).length = k := by rw [chL_len, HC]
  obtain ⟨a, cc, rfl⟩ := row_slice HR
  rcases HR.2 with ⟨e1, e2⟩ | ⟨g, cp, cur, e1, -⟩
  · have : chL s D = [] := List.length_eq_zero_iff.1 (by rw [hl]; exact e2)
    rw [this, e2]
    exact ⟨a, cc, rfl, by simp, fun q => absurd rfl q⟩
  · obtain ⟨rfl, rfl⟩ : a = some ⟨g, 0, none⟩ ∧ cc = cp := by simpa using e1
    refine ⟨_, cc, by rw [hl], by rw [hl]; unfold maxLen; omega, fun _ => ⟨g, 0, rfl, fun i x hi => ?_⟩⟩
    have hik : i < k := by have := (List.getElem?_eq_some_iff.1 hi).1; rw [hl] at this; exact this
    have hc := HR.cells (g := g) rfl i (cvr b off s D.length vc i) (by rw [List.getElem?_map, List.getElem?_range hik]; rfl)
    rw [Go.WideShapes.add_plain] at hc
    have hx : x = chk s D i := by
      have := chL_get (s := s) (D := D) (k := i) (by rw [HC]; exact hik)
      rw [List.getD_eq_getElem?_getD, hi] at this
      exact this
    subst hx
    exact ⟨_, hc, chk_at2 vc HD ((HLT i).1 hik)⟩
set_option maxRecDepth 100000 in
set_option maxHeartbeats 8000000 in
theorem rpieces_lo (D : List Int) (b off vc s : Nat) (w0 w : World) (h : IntsAt w0 (.slice (some ⟨b, off, none⟩) D.length vc) D) (hs1 : 1 ≤ s) (hs2 : s ≤ 32) (hn9 : D.length ≤ 5000) (hcap : D.length ≤ vc) : Calls Try.prog 43 #[.int .i64 (s : Int), .slice (some ⟨b, off, none⟩) D.length vc] w fun e w' => ∃ u, e = .returned u ∧ RowsLo w0 w' u (chL s D) ∧ Below w.heap.size w w' := by
  have HD := Lib.hid h
  have HS1 := Lib.hid hs1
  have HS2 := Lib.hid hs2
  have HN9 := Lib.hid hn9
  have HCP := Lib.hid hcap
  obtain ⟨c, hc⟩ : ∃ z9, chN D.length s = z9 := ⟨_, rfl⟩
  have HC := Lib.hid hc
  have HLT := Lib.hid (show ∀ k, k < c ↔ k * s < D.length from fun k => by rw [← hc]; exact chN_lt hs1)
  have HCL := Lib.hid (show c ≤ 5000 by rw [← hc]; exact Nat.le_trans (chN_le _ _) hn9)
  clear h hs1 hs2 hn9 hcap hc
  obtain ⟨i0, hi0, hz0, hz1, hz2⟩ := info_parts infoSl
  go_enter Try.func43, Try.ntmps43
  go_wp2_with fail
  go_loopw [5, 6] (fun rv iv wr => ∃ k : Nat, k ≤ c ∧ iv = .int .i64 ((k * s : Nat) : Int) ∧ Hid (wr.ownsRow w.heap.size 22 1 rv k ((List.range k).map (cvr b off s D.length vc))) ∧ Hid (Below w.heap.size w wr)) (fun _ iv _ => D.length + 40 - (intOf iv).toNat)
  case atStart => exact ⟨0, by omega, by simp, Lib.hid (World.ownsRow_nil _ _ _ _), Lib.hid (Below.refl _ _)⟩
  case round =>
    obtain ⟨k, hk, rfl, HR, HB⟩ := hrel
    by_cases hlt : k < c
    rotate_left
    · obtain rfl : k = c := by omega
      have h7 : ¬ k * s < D.length := fun h => hlt ((HLT.out k).2 h)
      obtain ⟨p, hp⟩ : ∃ z9, k * s = z9 := ⟨_, rfl⟩
      rw [hp] at h7 ⊢
      clear hp
      have t1 : ¬ ((p : Nat) : Int) < (D.length : Int) := by omega
      clear h7 hlt hk
      have HRW := Lib.hid (rp_low HD.out HLT.out HC.out HR.out HCL.out)
      obtain ⟨a, cc, rfl⟩ := row_slice HR.out
      clear HR
      go_wp2
      go_ret
      exact ⟨_, rfl, HRW.out, HB.out⟩
    have HIL := Lib.hid hlt
    have h7 := (HLT.out k).1 hlt
    have h9 := HN9.out
    have h8 := HCP.out
    have g1 := HS1.out
    have g2 := HS2.out
    have HNX := Lib.hid (show ((k + 1) * s : Nat) = k * s + s from Nat.succ_mul k s)
    have HCV := Lib.hid (show cvr b off s D.length vc k = .slice (some ⟨b, off + k * s, none⟩) (min s (D.length - k * s)) (vc - k * s) from rfl)
    have HRG := Lib.hid (show (List.range (k + 1)).map (cvr b off s D.length vc) = (List.range k).map (cvr b off s D.length vc) ++ [cvr b off s D.length vc k] by rw [List.range_succ, List.map_append]; rfl)
    have hk9 : k ≤ 5000 := by have := HCL.out; omega
    obtain ⟨p, hp⟩ : ∃ z9, k * s = z9 := ⟨_, rfl⟩
    rw [hp] at HNX h7 HCV ⊢
    clear hp hk hlt
    have t1 : ((p : Nat) : Int) < (D.length : Int) := by omega
    have t2 : ¬ vc = p := by omega
    have t3 : (p : Int) ≤ (D.length : Int) := by omega
    have t4 : (D.length : Int) ≤ (vc : Int) := by omega
    have HM := Lib.hid (rk_m h7 h9 g1 g2)
    have HSZ := Lib.hid HB.out.size
    
    by_cases q : D.length < p + s
    · skip
      obtain ⟨t5, t6, t7⟩ := rk_a q h9 h7 g2
      have HT7 := Lib.hid t7
      have HT5 := Lib.hid t5
      clear q t7
      have HNW := Lib.hid (show ∀ j u, ([.slice (some ⟨b, off + p, none⟩) (D.length - p) (vc - p)] : List Value)[j]? = some u → (wr.alloc (.cells #[.slice (some ⟨b, off + p, none⟩) (D.length - p) (vc - p)] 22)).cell? ((⟨wr.heap.size, 0, none⟩ : Addr).add j) = some u from one_at (Cs.new wr wr.heap.size #[.slice (some ⟨b, off + p, none⟩) (D.length - p) (vc - p)] 22 rfl))
      have HC2 := Lib.hid (show ∀ u ∈ ([.slice (some ⟨b, off + p, none⟩) (D.length - p) (vc - p)] : List Value), u.oneCell' = true from by intro u hu; rw [List.mem_singleton] at hu; rw [hu]; rfl)
      clear h7 h9 h8 g1 g2
      go_wp2_with (at_builtin; refine wpList_append_own _ rfl _ _ 25 rfl w.heap.size 22 i0 (.slice none 0 0) 1 24 Try.underlying25 hi0 hz0 hz1 hz2 rfl (by decide) _ _ _ rfl (HR.out.alloc _) ⟨wr.heap.size, 0, none⟩ 1 1 [.slice (some ⟨b, off + p, none⟩) (D.length - p) (vc - p)] rfl rfl HNW.out HC2.out (by unfold maxLen; omega) (by omega) (by have := HSZ.out; simp; omega) ?_; intro v8 w8 ho8 hg8 _; have HR8 := Lib.hid ho8; have HB8 := Lib.hid (below_own (Nat.le_refl _) HB.out HR.out hg8); clear ho8 hg8)
      go_roundw
      case rel => exact ⟨k + 1, HIL.out, (by rw [HNX.out, HT5.out]; rfl), (by rw [HRG.out, HCV.out, HT7.out]; exact HR8), HB8⟩
      case measure => exact HM.out
    · skip
      obtain ⟨t5, t6, t7, t8⟩ := rk_b q h9 h7 g2
      have HT7 := Lib.hid t7
      have HT5 := Lib.hid t5
      have t9 : (p : Int) + (s : Int) ≤ (vc : Int) := by omega
      have ta : (p : Int) ≤ (p : Int) + (s : Int) := by omega
      clear q t7
      have HNW := Lib.hid (show ∀ j u, ([.slice (some ⟨b, off + p, none⟩) s (vc - p)] : List Value)[j]? = some u → (wr.alloc (.cells #[.slice (some ⟨b, off + p, none⟩) s (vc - p)] 22)).cell? ((⟨wr.heap.size, 0, none⟩ : Addr).add j) = some u from one_at (Cs.new wr wr.heap.size #[.slice (some ⟨b, off + p, none⟩) s (vc - p)] 22 rfl))
      have HC2 := Lib.hid (show ∀ u ∈ ([.slice (some ⟨b, off + p, none⟩) s (vc - p)] : List Value), u.oneCell' = true from by intro u hu; rw [List.mem_singleton] at hu; rw [hu]; rfl)
      clear h7 h9 h8 g1 g2
      go_wp2_with (at_builtin; refine wpList_append_own _ rfl _ _ 25 rfl w.heap.size 22 i0 (.slice none 0 0) 1 24 Try.underlying25 hi0 hz0 hz1 hz2 rfl (by decide) _ _ _ rfl (HR.out.alloc _) ⟨wr.heap.size, 0, none⟩ 1 1 [.slice (some ⟨b, off + p, none⟩) s (vc - p)] rfl rfl HNW.out HC2.out (by unfold maxLen; omega) (by omega) (by have := HSZ.out; simp; omega) ?_; intro v8 w8 ho8 hg8 _; have HR8 := Lib.hid ho8; have HB8 := Lib.hid (below_own (Nat.le_refl _) HB.out HR.out hg8); clear ho8 hg8)
      go_roundw
      case rel => exact ⟨k + 1, HIL.out, (by rw [HNX.out, HT5.out]; rfl), (by rw [HRG.out, HCV.out, HT7.out]; exact HR8), HB8⟩
      case measure => exact HM.out
end Go.Proofs.Yteodafhgfcbdpaa
