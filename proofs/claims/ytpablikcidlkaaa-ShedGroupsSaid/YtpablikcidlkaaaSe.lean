/- Shedding: the library's insertion sort. -/
import Derived.Test.YtpablikcidlkaaaSd
namespace Go.Proofs.Ytpablikcidlkaaa
open Go.RowKit

/-- All are indices. -/
def Ix (N : Nat) (L : List Nat) : Prop := ∀ i, i < L.length → L.getD i 0 < N
theorem ix_of {N : Nat} {L : List Nat} (h : ∀ x ∈ L, x < N) : Ix N L := fun i hi => by
  rw [show L.getD i 0 = L[i] by simp [hi]]; exact h _ (List.getElem_mem hi)
theorem Ix.set {N : Nat} {L : List Nat} {i x : Nat} (h : Ix N L) (hx : x < N) : Ix N (L.set i x) := fun k hk => by
  rw [List.length_set] at hk
  by_cases e : i = k
  · subst e; simp [hk]; exact hx
  · have := h k hk
    rwa [List.getD_eq_getElem?_getD, List.getElem?_set_ne e, ← List.getD_eq_getElem?_getD]
theorem Ix.sw {N : Nat} {L : List Nat} {i j : Nat} (h : Ix N L) (hi : i < L.length) (hj : j < L.length) : Ix N (Ytpablikcidlkaaa.sw L i j) := (h.set (h j hj)).set (h i hi)
theorem insD_ix (P : Nat → Int) (N a : Nat) : ∀ (j : Nat) (L : List Nat), Ix N L → j < L.length → Ix N (insD P a j L)
  | 0, L, h, _ => h
  | j + 1, L, h, hj => by
    unfold insD
    split
    · exact insD_ix P N a j _ (h.sw hj (by omega)) (by rw [sw_len]; omega)
    · exact h
theorem insI_ix (P : Nat → Int) (N a : Nat) : ∀ (n i : Nat) (L : List Nat), Ix N L → i + n ≤ L.length → Ix N (insI P a i n L)
  | 0, i, L, h, _ => h
  | n + 1, i, L, h, hl => by unfold insI; exact insI_ix P N a n (i + 1) _ (insD_ix P N a i L h (by omega)) (by rw [insD_len]; omega)
theorem insD_stop (P : Nat → Int) {a j : Nat} (h : ¬ a < j) (L : List Nat) : insD P a j L = L := by
  cases j with
  | zero => rfl
  | succ k => unfold insD; rw [decide_eq_false h]; rfl
set_option maxRecDepth 100000 in
set_option maxHeartbeats 8000000 in
theorem ins_any (b1 b2 g n c : Nat) (l : List (Int × Int)) (L0 : List Nat) (a b : Nat) (w : World) (h : OA w g L0) (hn : L0.length = n) (hx : Ix l.length L0) (hc : CmpOK l g b1 b2 w) (ha : a ≤ n) (hb : b ≤ n) (h9 : n ≤ 100000) :
    Calls Try.prog 41 #[.slice (some ⟨g, 0, none⟩) n c, .int .i64 a, .int .i64 b, .func (.func 38) #[] #[.pointer (some ⟨b1, 0, none⟩), .pointer (some ⟨b2, 0, none⟩)]] w fun e w' => e = .returned (.tuple #[]) ∧ OA w' g (ins (pri l) a b L0) ∧ Below g w w' := by
  have HO := Lib.hid h
  have HN := Lib.hid hn
  have HX := Lib.hid hx
  have HC := Lib.hid hc
  clear h hn hx hc
  obtain ⟨T, hT⟩ : ∃ T, ins (pri l) a b L0 = T := ⟨_, rfl⟩
  rw [hT]
  have HT := Lib.hid hT
  clear hT
  have heg : ∀ args w, (callFunc 38 args).run Try.prog w = .ok (.enter 38 args) w := fun _ _ => by kernel_rfl
  go_enter Try.func41, Try.ntmps41
  go_wp2_with fail
  go_loopw [8] (fun iv wr => ∃ i : Nat, a + 1 ≤ i ∧ (i ≤ b ∨ i = a + 1) ∧ iv = .int .i64 i ∧ Hid (∃ L, L.length = n ∧ Ix l.length L ∧ OA wr g L ∧ insI (pri l) a i (b - i) L = T) ∧ Hid (Below g w wr)) (fun iv _ => b - (intOf iv).toNat)
  case atStart => exact ⟨a + 1, by omega, by omega, by go_num, Lib.hid ⟨L0, HN.out, HX.out, HO.out, HT.out⟩, Below.refl _ _⟩
  case round =>
    clear HO HN HX HT
    obtain ⟨i, hi1, hi2, rfl, HL, HB⟩ := hrel
    by_cases hlt : i < b
    · obtain ⟨L, hl, hix, ho, ht⟩ := HL.out
      rw [show b - i = (b - (i + 1)) + 1 by omega] at ht
      have ht2 : insI (pri l) a (i + 1) (b - (i + 1)) (insD (pri l) a i L) = T := ht
      obtain ⟨D, hD⟩ : ∃ D, insD (pri l) a i L = D := ⟨_, rfl⟩
      rw [hD] at ht2
      have HT := Lib.hid ht2
      have HD := Lib.hid hD
      have HL0 := Lib.hid (show _ ∧ _ ∧ _ from ⟨hl, hix, ho⟩)
      have HDL := Lib.hid (show D.length = n ∧ Ix l.length D by rw [← hD]; exact ⟨by rw [insD_len]; exact hl, insD_ix _ _ _ _ _ hix (by omega)⟩)
      clear ht ht2 hl hix ho HL hD
      obtain ⟨W1, hW1⟩ : ∃ z, z = wr := ⟨_, rfl⟩
      subst hW1
      go_wp2_with fail
      go_loopw [9] (fun jv wr => ∃ j : Nat, a ≤ j ∧ j ≤ i ∧ jv = .int .i64 j ∧ Hid (∃ L, L.length = n ∧ Ix l.length L ∧ OA wr g L ∧ insD (pri l) a j L = D) ∧ Hid (Below g w wr)) (fun jv _ => (intOf jv).toNat)
      case atStart => exact ⟨i, by omega, Nat.le_refl _, rfl, Lib.hid ⟨L, HL0.out.1, HL0.out.2.1, HL0.out.2.2, HD.out⟩, HB⟩
      case round =>
        clear HL0 HB HD
        obtain ⟨j, hj1, hj2, rfl, HL, HB⟩ := hrel
        obtain ⟨L, hl, hix, ho, ht⟩ := HL.out
        clear HL
        by_cases haj : a < j
        · obtain ⟨k, rfl⟩ : ∃ k, j = k + 1 := ⟨j - 1, by omega⟩
          have x0 := ho.cell (i := k + 1) (by omega)
          have x1 := ho.cell (i := k) (by omega)
          have hu := hix (k + 1) (by omega)
          have hv := hix k (by omega)
          have xb := ho.lt
          have t7 : (k : Int) + 1 - 1 = k := by omega
          have t8 : (a : Int) < (k : Int) + 1 := by omega
          have HO := Lib.hid ho
          have hcm := cmI_neg (pri l (L.getD k 0)) (pri l (L.getD (k + 1) 0))
          have hla : lessAt (pri l) L (k + 1) k = decide (pri l (L.getD k 0) < pri l (L.getD (k + 1) 0)) := rfl
          rw [← hcm] at hla
          have HS := Lib.hid (fun (W : World) (hw : OA W g L) => hw.sw (i := k + 1) (j := k) (by omega) (by omega))
          have HSL := Lib.hid (show (sw L (k + 1) k).length = n ∧ Ix l.length (sw L (k + 1) k) from ⟨by rw [sw_len]; exact hl, hix.sw (by omega) (by omega)⟩)
          have HCC := Lib.hid (fun (W : World) (hw : Below g w W) => HC.out W hw _ _ hu hv)
          have HSET := Lib.hid (fun (W : World) (hw : OA W g L) => hw.set (i := k + 1) (x := L.getD k 0) (by omega))
          have HLN := Lib.hid hl
          have ht3 : (if (decide (a < k + 1) && lessAt (pri l) L (k + 1) k) = true then insD (pri l) a k (sw L (k + 1) k) else L) = D := ht
          rw [hla, decide_eq_true haj, Bool.true_and] at ht3
          clear ht ho hl hix hu hv hcm hla
          obtain ⟨cm, hcm⟩ : ∃ z, cmI (pri l (L.getD k 0)) (pri l (L.getD (k + 1) 0)) = z := ⟨_, rfl⟩
          rw [hcm] at ht3 HCC
          clear hcm
          have t8b : decide ((a : Int) < (k : Int) + 1) = true := decide_eq_true t8
          have t9 : (k : Int) + 1 < (n : Int) := by omega
          have t9b : k + 1 < n := by omega
          have t9c : (0 : Int) ≤ (k : Int) + 1 := by omega
          have t10 : (k : Int) < (n : Int) := by omega
          have t10b : k < n := by omega
          have t11 : IntKind.i64.wrap (k : Int) = (k : Int) := IntWalk.i64_in _ (by omega)
          have t12 : (0 : Int) ≤ (k : Int) := by omega
          have hgw : g ≤ wr.heap.size := Nat.le_of_lt xb
          go_wp2_with fail
          go_still_tail 14, (by kernel_rfl)
          change wpList _ _ _ _ _ wr.drew
          obtain ⟨w2, hw2⟩ : ∃ z, wr.drew = z := ⟨_, rfl⟩
          have b0 : Below wr.heap.size wr w2 := by rw [← hw2]; exact below_drew _ _
          rw [hw2]
          clear hw2
          go_wp2_with fail
          refine (HCC.out w2 (HB.out.trans (b0.mono hgw))).mono ?_
          rintro e w3 ⟨rfl, b3⟩
          have B3 := Lib.hid (HB.out.trans ((keep2 b3 b0).mono hgw))
          have O3 := HO.out.step (keep2 b3 b0)
          clear b3 b0 x0 x1 xb hgw
          by_cases hcm : cm < 0
          · rw [if_pos (decide_eq_true hcm)] at ht3
            have HD := Lib.hid ht3
            have hcb : decide (cm < 0) = true := decide_eq_true hcm
            have x0 := O3.cell (i := k + 1) (by rw [HLN.out]; omega)
            have x1 := O3.cell (i := k) (by rw [HLN.out]; omega)
            have y0 := O3.frozen (i := k + 1) (by rw [HLN.out]; omega)
            have y1 := O3.frozen (i := k) (by rw [HLN.out]; omega)
            have hs1 := HSET.out w3 O3
            have x2 := hs1.cell (i := k) (by rw [List.length_set, HLN.out]; omega)
            have y2 := hs1.frozen (i := k) (by rw [List.length_set, HLN.out]; omega)
            have xb := O3.lt
            have HS3 := Lib.hid (HS.out w3 O3)
            have B4 := Lib.hid ((B3.out.setCell (p := ⟨g, k + 1, none⟩) (Nat.le_refl _) (.int .i64 ((L.getD k 0 : Nat) : Int))).setCell (p := ⟨g, k, none⟩) (Nat.le_refl _) (.int .i64 ((L.getD (k + 1) 0 : Nat) : Int)))
            clear ht3 O3 hs1 HS HSET HO HCC B3
            generalize (L.set (k + 1) (L.getD k 0)).getD k 0 = v2 at *
            generalize L.getD (k + 1) 0 = u at *
            generalize L.getD k 0 = v at *
            go_wp2_with fail
            go_region
            go_wp2
            go_roundw
            case rel => exact ⟨k, by omega, by omega, by go_num, Lib.hid ⟨_, HSL.out.1, HSL.out.2, HS3.out.step (below_drew _ _), HD.out⟩, Lib.hid (B4.out.trans (below_drew _ _))⟩
            case measure => simp [intOf]
          · rw [if_neg (by simp; omega)] at ht3
            have O4 := Lib.hid (show OA w3 g D by rw [← ht3]; exact O3)
            have hcb : decide (cm < 0) = false := decide_eq_false hcm
            clear ht3 O3 HS HSET HO HCC
            go_wp2
            go_roundw
            case rel => exact ⟨i + 1, by omega, by omega, by go_num, Lib.hid ⟨D, HDL.out.1, HDL.out.2, O4.out, HT.out⟩, B3⟩
            case measure => simp [intOf]; omega
        · rw [insD_stop _ haj] at ht
          subst ht
          have HO := Lib.hid ho
          have t8 : ¬ (a : Int) < (j : Int) := by omega
          have t8b : decide ((a : Int) < (j : Int)) = false := decide_eq_false t8
          clear ho hl hix
          go_wp2_with fail
          go_quiet (fail)
          go_wp2
          go_roundw
          case rel => exact ⟨i + 1, by omega, by omega, by go_num, Lib.hid ⟨L, HDL.out.1, HDL.out.2, HO.out.step (below_drewN' _ _ _), HT.out⟩, Lib.hid (HB.out.trans (below_drewN' _ _ _))⟩
          case measure => simp [intOf]; omega
    · obtain ⟨L, hl, hix, ho, ht⟩ := HL.out
      rw [show b - i = 0 by omega] at ht
      have ht2 : L = T := ht
      subst ht2
      have HO := Lib.hid ho
      clear ht ho
      go_wp2
      go_end0
      exact ⟨rfl, HO.out, HB.out⟩
end Go.Proofs.Ytpablikcidlkaaa
