/- Shedding: what the library's sort yields, plainly. -/
import Derived.Test.YtpablikcidlkaaaSb
namespace Go.Proofs.Ytpablikcidlkaaa

theorem getD_in {A X B : List Nat} {k : Nat} (h1 : A.length ≤ k) (h2 : k < A.length + X.length) : (A ++ (X ++ B)).getD k 0 = X.getD (k - A.length) 0 := by
  simp only [List.getD_eq_getElem?_getD]
  rw [List.getElem?_append_right h1, List.getElem?_append_left (by omega)]
theorem getD_in2 {A X Y B : List Nat} {k : Nat} (h1 : A.length + X.length ≤ k) (h2 : k < A.length + X.length + Y.length) : (A ++ (X ++ (Y ++ B))).getD k 0 = Y.getD (k - (A.length + X.length)) 0 := by
  have : A ++ (X ++ (Y ++ B)) = (A ++ X) ++ (Y ++ B) := by simp
  rw [this, getD_in (by simp; omega) (by simp; omega), List.length_append]
theorem getD_mem {X : List Nat} {k : Nat} (h : k < X.length) : X.getD k 0 ∈ X := by
  rw [show X.getD k 0 = X[k] by simp [h]]; exact List.getElem_mem h
theorem getD_last {X : List Nat} {x : Nat} {X' : List Nat} (h : X = X' ++ [x]) {k : Nat} (hk : k + 1 = X.length) : X.getD k 0 = x := by
  subst h
  have : k = X'.length := by simp at hk; exact hk
  subst this
  simp
/-- The merge in place of two sorted neighbours. -/
theorem symM_is (P : Nat → Int) : ∀ (f : Nat) (A u v B : List Nat) (a m b : Nat), a = A.length → m = a + u.length → b = m + v.length → b - a ≤ f → u ≠ [] → v ≠ [] → Srt P u → Srt P v → Lows u v →
    ∃ s, symM P f a m b (A ++ (u ++ (v ++ B))) = A ++ (s ++ B) ∧ Mrg P u v s
  | 0, A, u, v, B, a, m, b, ha, hm, hb, hf, hu, hv, su, sv, hl => by
    have := List.length_pos_iff.2 hu
    omega
  | f + 1, A, u, v, B, a, m, b, ha, hm, hb, hf, hu, hv, su, sv, hl => by
    have lu := List.length_pos_iff.2 hu
    have lv := List.length_pos_iff.2 hv
    unfold symM
    split
    · rename_i h1
      obtain ⟨x, rfl⟩ : ∃ x, u = [x] := by
        match u, hu, (show u.length = 1 by omega) with
        | [x], _, _ => exact ⟨x, rfl⟩
      obtain ⟨R, hR⟩ : ∃ R, srch (fun h => lessAt P (A ++ ([x] ++ (v ++ B))) h a) m b = R := ⟨_, rfl⟩
      have hr := srch_in (fun h => lessAt P (A ++ ([x] ++ (v ++ B))) h a) _ m b rfl (by omega)
      have hs := srch_is (fun h => lessAt P (A ++ ([x] ++ (v ++ B))) h a) _ m b rfl (by omega)
      rw [hR] at hr hs ⊢
      have ex : (A ++ ([x] ++ (v ++ B))).getD a 0 = x := getD_mid ha
      have ev : ∀ h, m ≤ h → h < b → (A ++ ([x] ++ (v ++ B))).getD h 0 = v.getD (h - m) 0 := fun h h1 h2 => by
        rw [getD_in2 (by simp at hm ⊢; omega) (by simp at hm ⊢; omega)]
        congr 1
        simp at hm ⊢; omega
      obtain ⟨v1, v2, hv12, hl1⟩ := cut_at (l := v) (k := R - m) (by omega)
      have q1 : ∀ y ∈ v1, bef P y x := by
        have := join_of_ends (P := P) (a := v1) (b := [x]) (by rw [hv12] at sv; exact (List.pairwise_append.1 sv).1) (by simp [Srt]) ?_
        · exact fun y hy => this y hy x (by simp)
        · intro a' z y b' h1 h2
          have h2 := List.cons.inj h2
          rw [← h2.1]
          have hlt : m < R := by rw [h1] at hl1; simp at hl1; omega
          have := hs.1 hlt
          have hz : v.getD (R - 1 - m) 0 = z := by
            rw [hv12, List.getD_eq_getElem?_getD, List.getElem?_append_left (by omega), ← List.getD_eq_getElem?_getD]
            exact getD_last h1 (by omega)
          unfold lessAt at this
          rw [ex, ev (R - 1) (by omega) (by omega), hz] at this
          exact .inl (by simpa using this)
      have q2 : ∀ y ∈ v2, bef P x y := by
        have := join_of_ends (P := P) (a := [x]) (b := v2) (by simp [Srt]) (by rw [hv12] at sv; exact (List.pairwise_append.1 sv).2.1) ?_
        · exact fun y hy => this x (by simp) y hy
        · intro a' z y b' h1 h2
          have h1 : z = x := by
            have : a' = [] := by
              cases a' with
              | nil => rfl
              | cons c d => simp at h1
            subst this
            simpa using h1.symm
          rw [h1]
          have hvl : v.length = v1.length + v2.length := by rw [hv12, List.length_append]
          have hlt : R < b := by rw [h2] at hvl; simp at hvl; omega
          have := hs.2 hlt
          have hz : v.getD (R - m) 0 = y := by
            rw [hv12, h2, getD_mid hl1.symm]
          unfold lessAt at this
          rw [ex, ev R (by omega) (by omega), hz] at this
          have h3 : P y ≤ P x := by simpa using this
          have h4 : x < y := hl x (by simp) y (by rw [hv12, h2]; simp)
          unfold bef; omega
      refine ⟨v1 ++ x :: v2, ?_, ?_⟩
      · have := mvR_is v1 A (v2 ++ B) x a (R - 1 - a) ha (by omega)
        rw [hv12]
        simpa using this
      · rw [hv12]
        exact mrg_one_l (by rw [← hv12]; exact sv) q1 q2
    · rename_i h1
      split
      · rename_i h2
        obtain ⟨y, rfl⟩ : ∃ y, v = [y] := by
          match v, hv, (show v.length = 1 by omega) with
          | [y], _, _ => exact ⟨y, rfl⟩
        obtain ⟨R, hR⟩ : ∃ R, srch (fun h => !lessAt P (A ++ (u ++ ([y] ++ B))) m h) a m = R := ⟨_, rfl⟩
        have hr := srch_in (fun h => !lessAt P (A ++ (u ++ ([y] ++ B))) m h) _ a m rfl (by omega)
        have hs := srch_is (fun h => !lessAt P (A ++ (u ++ ([y] ++ B))) m h) _ a m rfl (by omega)
        rw [hR] at hr hs ⊢
        have ey : (A ++ (u ++ ([y] ++ B))).getD m 0 = y := by
          rw [getD_in2 (by omega) (by simp; omega), show m - (A.length + u.length) = 0 by omega]; rfl
        have eu : ∀ h, a ≤ h → h < m → (A ++ (u ++ ([y] ++ B))).getD h 0 = u.getD (h - a) 0 := fun h h1 h2 => by
          rw [getD_in (by omega) (by omega), ha]
        obtain ⟨u1, u2, hu12, hl1⟩ := cut_at (l := u) (k := R - a) (by omega)
        have hul : u.length = u1.length + u2.length := by rw [hu12, List.length_append]
        have q1 : ∀ z ∈ u1, bef P z y := by
          have := join_of_ends (P := P) (a := u1) (b := [y]) (by rw [hu12] at su; exact (List.pairwise_append.1 su).1) (by simp [Srt]) ?_
          · exact fun z hz => this z hz y (by simp)
          · intro a' z y' b' h1 h2
            have h2 := List.cons.inj h2
            rw [← h2.1]
            have hlt : a < R := by rw [h1] at hl1; simp at hl1; omega
            have := hs.1 hlt
            have hz : u.getD (R - 1 - a) 0 = z := by
              rw [hu12, List.getD_eq_getElem?_getD, List.getElem?_append_left (by omega), ← List.getD_eq_getElem?_getD]
              exact getD_last h1 (by omega)
            unfold lessAt at this
            rw [ey, eu (R - 1) (by omega) (by omega), hz] at this
            have h3 : P y ≤ P z := by simpa using this
            have h4 : z < y := hl z (by rw [hu12, h1]; simp) y (by simp)
            unfold bef; omega
        have q2 : ∀ z ∈ u2, bef P y z := by
          have := join_of_ends (P := P) (a := [y]) (b := u2) (by simp [Srt]) (by rw [hu12] at su; exact (List.pairwise_append.1 su).2.1) ?_
          · exact fun z hz => this y (by simp) z hz
          · intro a' y' z b' h1 h2
            have h1 : y' = y := by
              have : a' = [] := by
                cases a' with
                | nil => rfl
                | cons c d => simp at h1
              subst this
              simpa using h1.symm
            rw [h1]
            have hlt : R < m := by rw [h2] at hul; simp at hul; omega
            have := hs.2 hlt
            have hz : u.getD (R - a) 0 = z := by
              rw [hu12, h2, getD_mid hl1.symm]
            unfold lessAt at this
            rw [ey, eu R (by omega) (by omega), hz] at this
            exact .inl (by simpa using this)
        refine ⟨u1 ++ y :: u2, ?_, ?_⟩
        · have := mvL_is (m - R) u2 (A ++ u1) B y m (by simp; omega) (by omega)
          rw [hu12]
          simpa using this
        · rw [hu12]
          exact mrg_one_r (by rw [← hu12]; exact su) q1 q2
      · rename_i h2
        have hmid1 : 2 * ((a + b) / 2) ≤ a + b := by omega
        have hmid2 : a + b ≤ 2 * ((a + b) / 2) + 1 := by omega
        obtain ⟨mid, hmid⟩ : ∃ mid, (a + b) / 2 = mid := ⟨_, rfl⟩
        unfold sst
        rw [hmid] at hmid1 hmid2 ⊢
        obtain ⟨L, hL⟩ : ∃ L, A ++ (u ++ (v ++ B)) = L := ⟨_, rfl⟩
        have eu : ∀ h, a ≤ h → h < m → L.getD h 0 = u.getD (h - a) 0 := fun h h1 h2 => by
          rw [← hL, getD_in (by omega) (by omega), ha]
        have ev : ∀ h, m ≤ h → h < b → L.getD h 0 = v.getD (h - m) 0 := fun h h1 h2 => by
          rw [← hL, getD_in2 (by omega) (by omega), hm, ha]
        rw [hL]
        obtain ⟨S, hS⟩ : ∃ S, (if mid < m then srch (fun c => !lessAt P L (mid + m - 1 - c) c) (mid + m - b) mid else srch (fun c => !lessAt P L (mid + m - 1 - c) c) a m) = S := ⟨_, rfl⟩
        have hSS : a ≤ S ∧ S ≤ mid ∧ S ≤ m ∧ mid + m ≤ S + b ∧ (a < S → mid + m < S + b → P (L.getD (mid + m - S) 0) ≤ P (L.getD (S - 1) 0)) ∧ (S < mid → S < m → P (L.getD S 0) < P (L.getD (mid + m - S - 1) 0)) := by
          split at hS
          · have hr := srch_in (fun c => !lessAt P L (mid + m - 1 - c) c) _ (mid + m - b) mid rfl (by omega)
            have hs := srch_is (fun c => !lessAt P L (mid + m - 1 - c) c) _ (mid + m - b) mid rfl (by omega)
            rw [hS] at hr hs
            refine ⟨by omega, by omega, by omega, by omega, fun c1 c2 => ?_, fun c1 c2 => ?_⟩
            · have := hs.1 (by omega)
              unfold lessAt at this
              rw [show mid + m - 1 - (S - 1) = mid + m - S by omega] at this
              simpa using this
            · have := hs.2 (by omega)
              unfold lessAt at this
              rw [show mid + m - 1 - S = mid + m - S - 1 by omega] at this
              simpa using this
          · have hr := srch_in (fun c => !lessAt P L (mid + m - 1 - c) c) _ a m rfl (by omega)
            have hs := srch_is (fun c => !lessAt P L (mid + m - 1 - c) c) _ a m rfl (by omega)
            rw [hS] at hr hs
            refine ⟨by omega, by omega, by omega, by omega, fun c1 c2 => ?_, fun c1 c2 => ?_⟩
            · have := hs.1 (by omega)
              unfold lessAt at this
              rw [show mid + m - 1 - (S - 1) = mid + m - S by omega] at this
              simpa using this
            · have := hs.2 (by omega)
              unfold lessAt at this
              rw [show mid + m - 1 - S = mid + m - S - 1 by omega] at this
              simpa using this
        rw [hS]
        clear hS hmid
        obtain ⟨k1, k2, k3, k4, k5, k6⟩ := hSS
        obtain ⟨u1, u2, hu12, hu1⟩ := cut_at (l := u) (k := S - a) (by omega)
        obtain ⟨v1, v2, hv12, hv1⟩ := cut_at (l := v) (k := mid - S) (by omega)
        have hul : u.length = u1.length + u2.length := by rw [hu12, List.length_append]
        have hvl : v.length = v1.length + v2.length := by rw [hv12, List.length_append]
        have su' : Srt P (u1 ++ u2) := by rw [← hu12]; exact su
        have sv' : Srt P (v1 ++ v2) := by rw [← hv12]; exact sv
        have huv : ∀ a' x y b', u1 = a' ++ [x] → v2 = y :: b' → bef P x y := by
          intro a' x y b' e1 e2
          have l1 : u1.length = a'.length + 1 := by rw [e1]; simp
          have l2 : v2.length = b'.length + 1 := by rw [e2]; simp
          have h := k5 (by omega) (by omega)
          rw [ev (mid + m - S) (by omega) (by omega), eu (S - 1) (by omega) (by omega)] at h
          have hx : u.getD (S - 1 - a) 0 = x := by
            rw [hu12, List.getD_eq_getElem?_getD, List.getElem?_append_left (by omega), ← List.getD_eq_getElem?_getD]
            exact getD_last e1 (by omega)
          have hy : v.getD (mid + m - S - m) 0 = y := by
            rw [hv12, e2, getD_mid (by omega)]
          rw [hx, hy] at h
          have h4 : x < y := hl x (by rw [hu12, e1]; simp) y (by rw [hv12, e2]; simp)
          unfold bef; omega
        have hvu : ∀ a' x y b', v1 = a' ++ [x] → u2 = y :: b' → bef P x y := by
          intro a' x y b' e1 e2
          have l1 : v1.length = a'.length + 1 := by rw [e1]; simp
          have l2 : u2.length = b'.length + 1 := by rw [e2]; simp
          have h := k6 (by omega) (by omega)
          rw [ev (mid + m - S - 1) (by omega) (by omega), eu S (by omega) (by omega)] at h
          have hx : v.getD (mid + m - S - 1 - m) 0 = x := by
            rw [hv12, List.getD_eq_getElem?_getD, List.getElem?_append_left (by omega), ← List.getD_eq_getElem?_getD]
            exact getD_last e1 (by omega)
          have hy : u.getD (S - a) 0 = y := by
            rw [hu12, e2, getD_mid (by omega)]
          rw [hx, hy] at h
          exact .inl h
        have e1 : rotc S m (mid + m - S) L = A ++ (u1 ++ (v1 ++ (u2 ++ (v2 ++ B)))) := by
          unfold rotc
          split
          · rename_i hc
            simp only [Bool.and_eq_true, decide_eq_true_eq] at hc
            unfold rota
            have h := rot_is (mid + m - S - S) u2 v1 (A ++ u1) (v2 ++ B) m (by omega) (by intro e; rw [e] at hul; simp at hul; omega) (by intro e; rw [e] at hv1; simp at hv1; omega) (by simp; omega)
            rw [← hL, hu12, hv12, show m - S = u2.length by omega, show mid + m - S - m = v1.length by omega]
            simpa using h
          · rename_i hc
            simp only [Bool.and_eq_true, decide_eq_true_eq] at hc
            rw [← hL, hu12, hv12]
            by_cases hz : S < m
            · have : v1 = [] := List.length_eq_zero_iff.1 (by omega)
              subst this; simp
            · have : u2 = [] := List.length_eq_zero_iff.1 (by omega)
              subst this; simp
        have hl1 : Lows u1 v1 := fun x hx y hy => hl x (by rw [hu12]; simp [hx]) y (by rw [hv12]; simp [hy])
        have hl2 : Lows u2 v2 := fun x hx y hy => hl x (by rw [hu12]; simp [hx]) y (by rw [hv12]; simp [hy])
        obtain ⟨a1, a2, -⟩ := List.pairwise_append.1 su'
        obtain ⟨b1, b2, -⟩ := List.pairwise_append.1 sv'
        obtain ⟨s1, g1, m1⟩ : ∃ s1, (if (decide (a < S) && decide (S < mid)) = true then symM P f a S mid (A ++ (u1 ++ (v1 ++ (u2 ++ (v2 ++ B))))) else (A ++ (u1 ++ (v1 ++ (u2 ++ (v2 ++ B)))))) = A ++ (s1 ++ (u2 ++ (v2 ++ B))) ∧ Mrg P u1 v1 s1 := by
          split
          · rename_i hc
            simp only [Bool.and_eq_true, decide_eq_true_eq] at hc
            exact symM_is P f A u1 v1 (u2 ++ (v2 ++ B)) a S mid ha (by omega) (by omega) (by omega) (by intro e; rw [e] at hu1; simp at hu1; omega) (by intro e; rw [e] at hv1; simp at hv1; omega) a1 b1 hl1
          · rename_i hc
            simp only [Bool.and_eq_true, decide_eq_true_eq] at hc
            refine ⟨u1 ++ v1, by simp, ?_⟩
            by_cases hz : a < S
            · have : v1 = [] := List.length_eq_zero_iff.1 (by omega)
              subst this; rw [List.append_nil]; exact mrg_nil_r a1
            · have : u1 = [] := List.length_eq_zero_iff.1 (by omega)
              subst this; rw [List.nil_append]; exact mrg_nil_l b1
        have ls1 : s1.length = mid - a := by rw [m1.1.length_eq, List.length_append]; omega
        obtain ⟨s2, g2, m2⟩ : ∃ s2, (if (decide (mid < mid + m - S) && decide (mid + m - S < b)) = true then symM P f mid (mid + m - S) b (A ++ (s1 ++ (u2 ++ (v2 ++ B)))) else A ++ (s1 ++ (u2 ++ (v2 ++ B)))) = A ++ ((s1 ++ s2) ++ B) ∧ Mrg P u2 v2 s2 := by
          split
          · rename_i hc
            simp only [Bool.and_eq_true, decide_eq_true_eq] at hc
            have h := symM_is P f (A ++ s1) u2 v2 B mid (mid + m - S) b (by simp; omega) (by omega) (by omega) (by omega) (by intro e; rw [e] at hul; simp at hul; omega) (by intro e; rw [e] at hvl; simp at hvl; omega) a2 b2 hl2
            obtain ⟨s2, h1, h2⟩ := h
            exact ⟨s2, by simpa using h1, h2⟩
          · rename_i hc
            simp only [Bool.and_eq_true, decide_eq_true_eq] at hc
            refine ⟨u2 ++ v2, by simp, ?_⟩
            by_cases hz : mid < mid + m - S
            · have : v2 = [] := List.length_eq_zero_iff.1 (by omega)
              subst this; rw [List.append_nil]; exact mrg_nil_r a2
            · have : u2 = [] := List.length_eq_zero_iff.1 (by omega)
              subst this; rw [List.nil_append]; exact mrg_nil_l b2
        refine ⟨s1 ++ s2, ?_, ?_⟩
        · simp only
          rw [e1, g1, g2]
        · rw [hu12, hv12]
          exact mrg_halves m1 m2 su' sv' huv hvu
end Go.Proofs.Ytpablikcidlkaaa
