/- Shedding: the list of indices in memory; parts that change places. -/
import Derived.Test.YtpablikcidlkaaaBb
import Derived.Test.YtpablikcidlkaaaSb
namespace Go.Proofs.Ytpablikcidlkaaa
open Go.RowKit

/-- The indices in a block. -/
def OA (W : World) (g : Nat) (l : List Nat) : Prop := Cs W g (l.map fun x => Value.int .i64 ((x : Nat) : Int)).toArray
theorem oa_get {l : List Nat} {i : Nat} (h : i < l.length) : (l.map fun x => Value.int .i64 ((x : Nat) : Int)).toArray[i]? = some (.int .i64 ((l.getD i 0 : Nat) : Int)) := by simp [h]
theorem OA.cell {W : World} {g : Nat} {l : List Nat} (h : OA W g l) {i : Nat} (hi : i < l.length) : W.cell? ⟨g, i, none⟩ = some (.int .i64 ((l.getD i 0 : Nat) : Int)) := Cs.c h i (oa_get hi)
theorem OA.frozen {W : World} {g : Nat} {l : List Nat} (h : OA W g l) {i : Nat} (hi : i < l.length) : W.frozen? ⟨g, i, none⟩ = false := Cs.f h i (by simpa using hi)
theorem OA.lt {W : World} {g : Nat} {l : List Nat} (h : OA W g l) : g < W.heap.size := h.2.2
theorem OA.step {W W' : World} {g : Nat} {l : List Nat} (h : OA W g l) (hb : Below W.heap.size W W') : OA W' g l := Cs.step h hb
theorem OA.set {W : World} {g i : Nat} {l : List Nat} {x : Nat} (h : OA W g l) (hi : i < l.length) : OA (W.setCell ⟨g, i, none⟩ (.int .i64 (x : Int))) g (l.set i x) :=
  Cs.set h i (by simpa using hi) _ (by rw [List.map_set]; simp)
theorem OA.sw {W : World} {g i j : Nat} {l : List Nat} (h : OA W g l) (hi : i < l.length) (hj : j < l.length) : OA ((W.setCell ⟨g, i, none⟩ (.int .i64 ((l.getD j 0 : Nat) : Int))).setCell ⟨g, j, none⟩ (.int .i64 ((l.getD i 0 : Nat) : Int))) g (Ytpablikcidlkaaa.sw l i j) :=
  (h.set hi).set (by simpa using hj)
set_option maxRecDepth 100000 in
set_option maxHeartbeats 4000000 in
theorem swap_any (g n c : Nat) (l : List Nat) (a b k : Nat) (cv : Value) (w : World) (h : OA w g l) (hn : l.length = n) (ha : a + k ≤ n) (hb : b + k ≤ n) (h9 : n ≤ 100000) :
    Calls Try.prog 44 #[.slice (some ⟨g, 0, none⟩) n c, .int .i64 a, .int .i64 b, .int .i64 k, cv] w fun e w' => e = .returned (.tuple #[]) ∧ OA w' g (swR a b 0 k l) ∧ Below g w w' := by
  have HO := Lib.hid h
  have HN := Lib.hid hn
  clear h hn
  go_enter Try.func44, Try.ntmps44
  go_wp2_with fail
  go_loopw [10] (fun iv wr => ∃ i : Nat, i ≤ k ∧ iv = .int .i64 i ∧ Hid (∃ L, L.length = n ∧ OA wr g L ∧ swR a b i (k - i) L = swR a b 0 k l) ∧ Hid (Below g w wr)) (fun iv _ => k - (intOf iv).toNat)
  case atStart => exact ⟨0, by omega, rfl, Lib.hid ⟨l, HN.out, HO.out, by rw [Nat.sub_zero]⟩, Below.refl _ _⟩
  case round =>
    clear HO HN
    obtain ⟨i, hi, rfl, HL, HB⟩ := hrel
    obtain ⟨L, hl, ho, ht⟩ := HL.out
    by_cases hlt : i < k
    · have hk : k - i = (k - (i + 1)) + 1 := by omega
      rw [hk] at ht
      have x0 := ho.cell (i := a + i) (by omega)
      have x1 := ho.cell (i := b + i) (by omega)
      have y0 := ho.frozen (i := a + i) (by omega)
      have y1 := ho.frozen (i := b + i) (by omega)
      have HS := Lib.hid (ho.sw (i := a + i) (j := b + i) (by omega) (by omega))
      have HT := Lib.hid ht
      have HLL := Lib.hid (show (sw L (a + i) (b + i)).length = n by rw [sw_len]; exact hl)
      have hs1 := ho.set (i := a + i) (x := L.getD (b + i) 0) (by omega)
      have x2 := hs1.cell (i := b + i) (by rw [List.length_set]; omega)
      have y2 := hs1.frozen (i := b + i) (by rw [List.length_set]; omega)
      have xb := ho.lt
      have HB2 := Lib.hid ((HB.out.setCell (p := ⟨g, a + i, none⟩) (Nat.le_refl _) (.int .i64 ((L.getD (b + i) 0 : Nat) : Int))).setCell (p := ⟨g, b + i, none⟩) (Nat.le_refl _) (.int .i64 ((L.getD (a + i) 0 : Nat) : Int)))
      clear ht ho hl HL hs1
      generalize L.getD (a + i) 0 = u at *
      generalize L.getD (b + i) 0 = v at *
      generalize ((L.set (a + i) v).getD (b + i) 0) = v2 at *
      go_wp2_with fail
      go_region
      go_wp2
      go_roundw
      case rel => exact ⟨i + 1, hlt, by go_num, Lib.hid ⟨sw L (a + i) (b + i), HLL.out, HS.out.step (below_drew _ _), HT.out⟩, Lib.hid (HB2.out.trans (below_drew _ _))⟩
      case measure => simp [intOf]; omega
    · obtain rfl : i = k := by omega
      rw [Nat.sub_self] at ht
      go_wp2
      go_end0
      exact ⟨rfl, by rw [← ht]; exact ho, HB.out⟩
theorem rota_len (a m b : Nat) (L : List Nat) : (rota a m b L).length = L.length := by unfold rota; rw [rot_len]
set_option maxRecDepth 100000 in
set_option maxHeartbeats 4000000 in
theorem rota_any (b1 b2 g n c : Nat) (l : List Nat) (a m b : Nat) (cv : Value) (hcv : cv = .func (.func 38) #[] #[.pointer (some ⟨b1, 0, none⟩), .pointer (some ⟨b2, 0, none⟩)]) (w : World) (h : OA w g l) (hn : l.length = n) (ha : a < m) (hm : m < b) (hb : b ≤ n) (h9 : n ≤ 100000) :
    Calls Try.prog 43 #[.slice (some ⟨g, 0, none⟩) n c, .int .i64 a, .int .i64 m, .int .i64 b, cv] w fun e w' => e = .returned (.tuple #[]) ∧ OA w' g (rota a m b l) ∧ Below g w w' := by
  have HO := Lib.hid h
  have HN := Lib.hid hn
  subst hcv
  clear h hn
  have c1 : (m : Int) - (a : Int) = ((m - a : Nat) : Int) := by omega
  have c2 : (b : Int) - (m : Int) = ((b - m : Nat) : Int) := by omega
  obtain ⟨T, hT⟩ : ∃ T, rota a m b l = T := ⟨_, rfl⟩
  rw [hT]
  have HT0 := Lib.hid hT
  clear hT
  go_enter Try.func43, Try.ntmps43
  go_wp2_with fail
  clear c1 c2
  go_loopw [10, 11] (fun iv jv wr => ∃ i j : Nat, 0 < i ∧ 0 < j ∧ i ≤ m ∧ m + j ≤ n ∧ iv = .int .i64 i ∧ jv = .int .i64 j ∧ Hid (∃ f L, i + j ≤ f ∧ L.length = n ∧ OA wr g L ∧ rot m f i j L = T) ∧ Hid (Below g w wr)) (fun iv jv _ => (intOf iv).toNat + (intOf jv).toNat)
  case atStart => exact ⟨m - a, b - m, by omega, by omega, by omega, by omega, rfl, rfl, Lib.hid ⟨b - a, l, by omega, HN.out, HO.out, HT0.out⟩, Below.refl _ _⟩
  case round =>
    clear HO HN HT0
    obtain ⟨i, j, hi0, hj0, him, hjn, rfl, rfl, HL, HB⟩ := hrel
    obtain ⟨f, L, hf, hl, ho, ht⟩ := HL.out
    obtain ⟨f', rfl⟩ : ∃ f', f = f' + 1 := ⟨f - 1, by omega⟩
    unfold rot at ht
    have HLL := Lib.hid hl
    have HO := Lib.hid ho
    have c1 : (m : Int) - (i : Int) = ((m - i : Nat) : Int) := by omega
    clear HL hl ho
    by_cases hij : i = j
    · subst hij
      rw [if_pos rfl] at ht
      have HT := Lib.hid ht
      clear ht
      go_wp2_with fail
      refine (swap_any g n c L (m - i) m i _ _ HO.out HLL.out (by omega) (by omega) h9).mono ?_
      rintro e w2 ⟨rfl, o2, b2⟩
      have HO2 := Lib.hid o2
      have HB2 := Lib.hid (HB.out.trans b2)
      clear o2 b2 c1
      go_wp2
      go_end0
      exact ⟨rfl, by rw [← HT.out]; exact HO2.out, HB2.out⟩
    · rw [if_neg hij] at ht
      have d1 : ((i : Int) != (j : Int)) = true := by simp; omega
      have d1b : ((i : Int) = (j : Int)) = False := by simp; omega
      by_cases hlt : j < i
      · rw [if_pos hlt] at ht
        have HT := Lib.hid ht
        have d2 : (j : Int) < (i : Int) := by omega
        have c2 : (i : Int) - (j : Int) = ((i - j : Nat) : Int) := by omega
        clear ht
        go_wp2_with fail
        refine (swap_any g n c L (m - i) m j _ _ HO.out HLL.out (by omega) (by omega) h9).mono ?_
        rintro e w2 ⟨rfl, o2, b2⟩
        have HO2 := Lib.hid o2
        have HB2 := Lib.hid (HB.out.trans b2)
        clear o2 b2 c1
        go_wp2
        go_roundw
        case rel => exact ⟨i - j, j, by omega, hj0, by omega, hjn, by first | rfl | rw [c2], rfl, Lib.hid ⟨f', _, by omega, by rw [swR_len]; exact HLL.out, HO2.out, HT.out⟩, HB2⟩
        case measure => simp [intOf]; omega
      · rw [if_neg hlt] at ht
        have HT := Lib.hid ht
        have d2 : ¬ (j : Int) < (i : Int) := by omega
        have c2 : (j : Int) - (i : Int) = ((j - i : Nat) : Int) := by omega
        have c3 : (m : Int) + (j : Int) - (i : Int) = ((m + j - i : Nat) : Int) := by omega
        clear ht
        go_wp2_with fail
        refine (swap_any g n c L (m - i) (m + j - i) i _ _ HO.out HLL.out (by omega) (by omega) h9).mono ?_
        rintro e w2 ⟨rfl, o2, b2⟩
        have HO2 := Lib.hid o2
        have HB2 := Lib.hid (HB.out.trans b2)
        clear o2 b2 c1
        go_wp2
        go_roundw
        case rel => exact ⟨i, j - i, hi0, by omega, him, by omega, rfl, by first | rfl | rw [c2], Lib.hid ⟨f', _, by omega, by rw [swR_len]; exact HLL.out, HO2.out, HT.out⟩, HB2⟩
        case measure => simp [intOf]; omega
end Go.Proofs.Ytpablikcidlkaaa
