/- Shedding: the library's stable sort. -/
import Derived.Test.YtpablikcidlkaaaSi
namespace Go.Proofs.Ytpablikcidlkaaa
open Go.RowKit

theorem ix_range {n : Nat} {L : List Nat} (h : L.Perm (List.range' 0 n)) : Ix n L := ix_of fun x hx => by
  have := h.subset hx
  rw [List.mem_range'_1] at this
  omega
theorem pre_ix {P : Nat → Int} {s a n : Nat} {A : List Nat} (h : Pres P s a A) (ha : a ≤ n) : (A ++ List.range' a (n - a)).Perm (List.range' 0 n) := by
  have := range_cut (a := 0) (m := a) (b := n) (by omega) ha
  simp only [Nat.sub_zero] at this
  rw [this]
  exact List.Perm.append_right _ h.perm
theorem pre_ix2 {P : Nat → Int} {s t a n : Nat} {A B : List Nat} (h : Pres P s a A) (k : Blks P t n a B) : (A ++ B).Perm (List.range' 0 n) := by
  have := range_cut (a := 0) (m := a) (b := n) (by omega) k.le
  simp only [Nat.sub_zero] at this
  rw [this]
  exact List.Perm.append h.perm k.perm
theorem perm_len {n : Nat} {L : List Nat} (h : L.Perm (List.range' 0 n)) : L.length = n := by rw [h.length_eq, List.length_range']
/-- The state of the first loop. -/
def Sta (P : Nat → Int) (n g : Nat) (a : Nat) (W : World) : Prop := ∃ A, Pres P 20 a A ∧ OA W g (A ++ List.range' a (n - a))
/-- The state of the inner loop. -/
def Stb (P : Nat → Int) (n g s : Nat) (a : Nat) (W : World) : Prop := ∃ A B, Pres P (2 * s) a A ∧ Blks P s n a B ∧ OA W g (A ++ B)
/-- The state of the outer loop. -/
def Stc (P : Nat → Int) (n g s : Nat) (W : World) : Prop := ∃ L, Blks P s n 0 L ∧ OA W g L
set_option maxRecDepth 100000 in
set_option maxHeartbeats 16000000 in
theorem stable_any (b1 b2 g n c : Nat) (l : List (Int × Int)) (w : World) (h : OA w g (List.range' 0 n)) (hn : l.length = n) (hc : CmpOK l g b1 b2 w) (h9 : n ≤ 100000) :
    Calls Try.prog 40 #[.slice (some ⟨g, 0, none⟩) n c, .int .i64 n, .func (.func 38) #[] #[.pointer (some ⟨b1, 0, none⟩), .pointer (some ⟨b2, 0, none⟩)]] w fun e w' => e = .returned (.tuple #[]) ∧ (∃ s, OA w' g s ∧ IsST (pri l) 0 n s) ∧ Below g w w' := by
  have HO := Lib.hid (show Sta (pri l) n g 0 w from ⟨[], .nil, by simpa using h⟩)
  have HN := Lib.hid hn
  have HC := Lib.hid hc
  clear h hn hc
  go_enter Try.func40, Try.ntmps40
  go_wp2_with fail
  go_loopw [7, 8] (fun av bv wr => ∃ a b : Nat, a ≤ n ∧ b ≤ a + 20 ∧ a + 20 ≤ b ∧ av = .int .i64 a ∧ bv = .int .i64 b ∧ Hid (Sta (pri l) n g a wr) ∧ Hid (Below g w wr)) (fun av _ _ => n - (intOf av).toNat)
  case atStart => exact ⟨0, 20, by omega, by omega, by omega, by first | rfl | go_num, by first | rfl | go_num, HO, Lib.hid (Below.refl _ _)⟩
  case round =>
    clear HO
    obtain ⟨a, b, ha, hb1, hb2, rfl, rfl, HS, HB⟩ := hrel
    by_cases hlt : b ≤ n
    · obtain ⟨A, hA, ho⟩ := HS.out
      have hpm := pre_ix hA ha
      have hlen := perm_len hpm
      have hix := ix_range hpm
      have hcut := range_cut (a := a) (m := b) (b := n) (by omega) hlt
      obtain ⟨s, hs1, hs2⟩ := ins_st (pri l) A (List.range' b (n - b)) a b hA.len.symm (by omega)
      rw [← hcut] at hs1
      have hi := ins_any b1 b2 g n c l (A ++ List.range' a (n - a)) a b wr ho hlen (by rw [HN.out]; exact hix) (HC.out.step HB.out) ha hlt h9
      rw [hs1, ← List.append_assoc] at hi
      have HI := Lib.hid hi
      have HA := Lib.hid (show Pres (pri l) 20 b (A ++ s) by
        have hb : b = a + 20 := by omega
        rw [hb] at hs2 ⊢
        exact .snoc hA hs2)
      have t1 : (b : Int) ≤ (n : Int) := by omega
      have t1b : decide ((b : Int) ≤ (n : Int)) = true := decide_eq_true t1
      clear HS hA ho hpm hlen hix hcut hs1 hs2 hi
      go_wp2_with fail
      refine HI.out.mono ?_
      rintro e w2 ⟨rfl, o2, bb⟩
      have HS := Lib.hid (show Sta (pri l) n g b w2 from ⟨_, HA.out, o2⟩)
      have HB2 := Lib.hid (HB.out.trans bb)
      clear o2 bb HI HA HB
      go_wp2_with fail
      go_roundw
      case rel => exact ⟨b, b + 20, by omega, by omega, by omega, by first | rfl | go_num, by first | rfl | go_num, HS, HB2⟩
      case measure => first | (simp [intOf]; done) | (simp [intOf]; omega)
    · obtain ⟨A, hA, ho⟩ := HS.out
      have hpm := pre_ix hA ha
      have hlen := perm_len hpm
      have hix := ix_range hpm
      obtain ⟨s, hs1, hs2⟩ := ins_st (pri l) A [] a n hA.len.symm ha
      rw [List.append_nil, List.append_nil] at hs1
      have hi := ins_any b1 b2 g n c l (A ++ List.range' a (n - a)) a n wr ho hlen (by rw [HN.out]; exact hix) (HC.out.step HB.out) ha (Nat.le_refl _) h9
      rw [hs1] at hi
      have HI := Lib.hid hi
      have HA := Lib.hid (pres_join hA s (.last ha (by omega) hs2) ha)
      have t1 : ¬ (b : Int) ≤ (n : Int) := by omega
      have t1b : decide ((b : Int) ≤ (n : Int)) = false := decide_eq_false t1
      clear HS hA ho hpm hlen hix hs1 hs2 hi
      go_wp2_with fail
      refine HI.out.mono ?_
      rintro e w2 ⟨rfl, o2, bb⟩
      have HS := Lib.hid (show Stc (pri l) n g 20 w2 from ⟨_, HA.out, o2⟩)
      have HB2 := Lib.hid (HB.out.trans bb)
      clear o2 bb HI HA HB t1 t1b
      go_wp2_with fail
      go_loopw [6] (fun sv wr => ∃ s : Nat, 20 ≤ s ∧ (s ≤ 20 ∨ s ≤ 2 * n) ∧ sv = .int .i64 s ∧ Hid (Stc (pri l) n g s wr) ∧ Hid (Below g w wr)) (fun sv _ => n - (intOf sv).toNat)
      case atStart => exact ⟨20, by omega, by omega, by first | rfl | go_num, HS, HB2⟩
      case round =>
        clear HS HB2
        obtain ⟨s, hs1, hs2, rfl, HS, HB⟩ := hrel
        by_cases hsn : s < n
        · obtain ⟨d, hd⟩ : ∃ d, 2 * s = d := ⟨_, rfl⟩
          have hd2 : (2 : Int) * (s : Int) = (d : Int) := by omega
          have hd3 : (s : Int) * 2 = (d : Int) := by omega
          have hd4 : d ≤ 2 * n := by omega
          have hd5 : s < d := by omega
          have hd6 : s + s ≤ d := by omega
          have hd7 : d ≤ s + s := by omega
          have HD := Lib.hid hd
          have HT := Lib.hid (show Stb (pri l) n g s 0 wr by obtain ⟨L, k1, k2⟩ := HS.out; exact ⟨[], L, .nil, k1, by simpa using k2⟩)
          have t1 : (s : Int) < (n : Int) := by omega
          have t1b : decide ((s : Int) < (n : Int)) = true := decide_eq_true t1
          clear hd HS
          obtain ⟨W1, hW1⟩ : ∃ z, z = wr := ⟨_, rfl⟩
          subst hW1
          go_wp2_with fail
          go_loopw [7, 8] (fun av bv wr => ∃ a b : Nat, a ≤ n ∧ b ≤ a + d ∧ a + d ≤ b ∧ av = .int .i64 a ∧ bv = .int .i64 b ∧ Hid (Stb (pri l) n g s a wr) ∧ Hid (Below g w wr)) (fun av _ _ => n - (intOf av).toNat)
          case atStart => exact ⟨0, d, by omega, by omega, by omega, by first | rfl | go_num, by first | rfl | go_num, HT, HB⟩
          case round =>
            clear HT HB t1 t1b
            obtain ⟨a, b, ha, hb1, hb2, rfl, rfl, HS, HB⟩ := hrel
            by_cases hlt : b ≤ n
            · obtain ⟨A, B, hA, hBk, ho⟩ := HS.out
              have hpm := pre_ix2 hA hBk
              have hlen := perm_len hpm
              have hix := ix_range hpm
              have hb : b = a + 2 * s := by rw [HD.out]; omega
              obtain ⟨u, v, B', rfl, h3, h4, h5⟩ := hBk.pair (by omega) (by omega)
              rw [← hb] at h4 h5
              obtain ⟨z, g1, g2⟩ := sym_st (pri l) A u v B' d a (a + s) b hA.len.symm (by omega) (by omega) (by omega) h3 h4
              obtain ⟨M, hM⟩ : ∃ M, a + s = M := ⟨_, rfl⟩
              have hM2 : (a : Int) + (s : Int) = (M : Int) := by omega
              have hi := sym_any b1 b2 g n c l h9 d (A ++ (u ++ (v ++ B'))) a (a + s) b wr ho hlen (by rw [HN.out]; exact hix) (HC.out.step HB.out) (by omega) (by omega) hlt (by omega)
              rw [g1, hM] at hi
              have HI := Lib.hid hi
              have HA := Lib.hid (show Pres (pri l) (2 * s) b (A ++ z) by
                rw [hb] at g2 ⊢
                exact .snoc hA g2)
              have HBk := Lib.hid h5
              have t1 : (b : Int) ≤ (n : Int) := by omega
              have t1b : decide ((b : Int) ≤ (n : Int)) = true := decide_eq_true t1
              have hM3 : M ≤ n := by omega
              clear HS hA ho hpm hlen hix h3 h4 h5 g1 g2 hi hb hM
              go_wp2_with fail
              refine HI.out.mono ?_
              rintro e w2 ⟨rfl, o2, bb⟩
              have HS := Lib.hid (show Stb (pri l) n g s b w2 from ⟨_, _, HA.out, HBk.out, by rw [List.append_assoc]; exact o2⟩)
              have HB2 := Lib.hid (HB.out.trans bb)
              clear o2 bb HI HA HB HBk
              go_wp2_with fail
              go_roundw
              case rel => exact ⟨b, b + d, by omega, by omega, by omega, by first | rfl | go_num, by first | rfl | go_num, HS, HB2⟩
              case measure => first | (simp [intOf]; done) | (simp [intOf]; omega)
            · obtain ⟨A, B, hA, hBk, ho⟩ := HS.out
              have hpm := pre_ix2 hA hBk
              have hlen := perm_len hpm
              have hix := ix_range hpm
              have t1 : ¬ (b : Int) ≤ (n : Int) := by omega
              have t1b : decide ((b : Int) ≤ (n : Int)) = false := decide_eq_false t1
              obtain ⟨M, hM⟩ : ∃ M, a + s = M := ⟨_, rfl⟩
              have hM2 : (a : Int) + (s : Int) = (M : Int) := by omega
              have hM3 : M ≤ 2 * n := by omega
              by_cases hm : M < n
              · obtain ⟨u, v, rfl, h3, h4⟩ := hBk.rest (by omega) (by rw [HD.out]; omega)
                obtain ⟨z, g1, g2⟩ := sym_st (pri l) A u v [] d a (a + s) n hA.len.symm (by omega) (by omega) (by omega) h3 h4
                have hi := sym_any b1 b2 g n c l h9 d (A ++ (u ++ (v ++ []))) a (a + s) n wr ho hlen (by rw [HN.out]; exact hix) (HC.out.step HB.out) (by omega) (by omega) (Nat.le_refl _) (by omega)
                rw [g1, hM] at hi
                have HI := Lib.hid hi
                have HA := Lib.hid (pres_join hA (z ++ []) (.last ha (by rw [HD.out]; omega) (by rw [List.append_nil]; exact g2)) ha)
                have t2 : (M : Int) < (n : Int) := by omega
                have t2b : decide ((M : Int) < (n : Int)) = true := decide_eq_true t2
                clear HS hA hBk ho hpm hlen hix h3 h4 g1 g2 hi hM
                go_wp2_with fail
                refine HI.out.mono ?_
                rintro e w2 ⟨rfl, o2, bb⟩
                have HS := Lib.hid (show Stc (pri l) n g d w2 by rw [← HD.out]; exact ⟨_, HA.out, o2⟩)
                have HB2 := Lib.hid (HB.out.trans bb)
                clear o2 bb HI HA HB
                go_wp2_with fail
                go_roundw
                case rel => exact ⟨d, by omega, by omega, by first | rfl | go_num, HS, HB2⟩
                case measure => first | (simp [intOf]; done) | (simp [intOf]; omega)
              · have h3 := hBk.short (by omega)
                have HA := Lib.hid (pres_join hA B (.last ha (by rw [HD.out]; omega) h3) ha)
                have HS2 := Lib.hid (show Stc (pri l) n g d wr by rw [← HD.out]; exact ⟨_, HA.out, ho⟩)
                have t2 : ¬ (M : Int) < (n : Int) := by omega
                have t2b : decide ((M : Int) < (n : Int)) = false := decide_eq_false t2
                clear HS hA hBk ho hpm hlen hix h3 hM HA
                go_wp2_with fail
                go_roundw
                case rel => exact ⟨d, by omega, by omega, by first | rfl | go_num, HS2, HB⟩
                case measure => first | (simp [intOf]; done) | (simp [intOf]; omega)
        · obtain ⟨L, k1, k2⟩ := HS.out
          have HR := Lib.hid (show ∃ s, OA wr g s ∧ IsST (pri l) 0 n s from ⟨L, k2, k1.one (by omega)⟩)
          have t1 : ¬ (s : Int) < (n : Int) := by omega
          have t1b : decide ((s : Int) < (n : Int)) = false := decide_eq_false t1
          clear HS k1 k2
          go_wp2_with fail
          go_end0
          exact ⟨rfl, HR.out, HB.out⟩
end Go.Proofs.Ytpablikcidlkaaa
