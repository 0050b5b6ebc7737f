/- Capabilities: 'Narrow'. -/
import Derived.Test.YtoaleijfpocdjaaKc
import Derived.Test.YtoaleijfpocdjaaIv
import Derived.Deep.AppendLies
namespace Go.Proofs.Ytoaleijfpocdjaa
open Go.RowKit

/-- One value set. -/
def upv (vs : Nat → Value) (i : Nat) (x : Value) : Nat → Value := fun k => cond (k == i) x (vs k)
theorem upv_same (vs : Nat → Value) (i : Nat) (x : Value) : upv vs i x i = x := by simp [upv]
theorem upv_ne (vs : Nat → Value) (i k : Nat) (x : Value) (h : k ≠ i) : upv vs i x k = vs k := by
  unfold upv
  rw [show (k == i) = false by simpa using h]
  rfl
/-- The invariant of 'Narrow's last region: until the result is stored, and behind it. -/
def NJ (lit : (Nat → Value) → Act) (G : Bool → Nat → Value → World → Prop) (B Fin : World → Prop) (bf : Nat → Bool) (ac : Act) (wv : World) : Prop :=
  ∃ vs, ac = lit vs ∧ (bf 14 = true → vs 14 = .int .i64 0) ∧
    ((bf 13 = false ∧ (bf 12 = true → bf 7 = true) ∧ B wv ∧ ∀ i, i < 13 → bf i = true → G (bf 7) i (vs i) wv) ∨ (bf 13 = true ∧ (∀ i, i < 13 → bf i = true) ∧ Fin wv))
variable {lit : (Nat → Value) → Act} {G : Bool → Nat → Value → World → Prop} {B Fin : World → Prop} {bf : Nat → Bool} {ac : Act} {wv : World}
theorem NJ.start (vs : Nat → Value) (hac : ac = lit vs) (hb : B wv) : NJ lit G B Fin (fun _ => false) ac wv :=
  ⟨vs, hac, fun h => (by cases h), .inl ⟨rfl, fun h => (by cases h), hb, fun i _ h => (by cases h)⟩⟩
theorem NJ.open13 (h : NJ lit G B Fin bf ac wv) (hf : bf 13 = false) :
    ∃ vs, ac = lit vs ∧ (bf 14 = true → vs 14 = .int .i64 0) ∧ B wv ∧ ∀ i, i < 13 → bf i = true → G (bf 7) i (vs i) wv := by
  obtain ⟨vs, h1, h2, ⟨h3, h4, h5, h6⟩ | ⟨h3, h4, -⟩⟩ := h
  · exact ⟨vs, h1, h2, h5, h6⟩
  · rw [h3] at hf; cases hf
theorem NJ.fin {vs : Nat → Value} {w' : World} {ac' : Act} (hac : ac' = lit vs) (k : bf 14 = true → vs 14 = .int .i64 0) (ha : ∀ i, i < 13 → bf i = true) (hF : Fin w') : NJ lit G B Fin (up bf 13) ac' w' :=
  ⟨vs, hac, fun h => k (by rwa [up_ne _ _ _ (by omega)] at h), .inr ⟨up_same _ _, fun i hi => by rw [up_ne _ _ _ (by omega)]; exact ha i hi, hF⟩⟩
theorem NJ.open14 (h : NJ lit G B Fin bf ac wv) (hf : bf 13 = true) : ∃ vs, ac = lit vs ∧ (bf 14 = true → vs 14 = .int .i64 0) ∧ (∀ i, i < 13 → bf i = true) ∧ Fin wv := by
  obtain ⟨vs, h1, h2, ⟨h3, h4, h5, h6⟩ | ⟨h3, h4, h5⟩⟩ := h
  · rw [h3] at hf; cases hf
  · exact ⟨vs, h1, h2, h4, h5⟩
theorem NJ.last {vs : Nat → Value} {ac' : Act} (hac : ac' = lit (upv vs 14 (.int .i64 0))) (h3 : bf 13 = true) (ha : ∀ i, i < 13 → bf i = true) (hF : Fin wv) : NJ lit G B Fin (up bf 14) ac' wv :=
  ⟨_, hac, fun _ => upv_same _ _ _, .inr ⟨by rw [up_ne _ _ _ (by omega)]; exact h3, fun i hi => by rw [up_ne _ _ _ (by omega)]; exact ha i hi, hF⟩⟩
theorem row_own {w : World} {base e s : Nat} {v : Value} {n : Nat} {xs : List Value} (h : w.ownsRow base e s v n xs) (k : Nat) (hk : v.ownBlock = some k) : base ≤ k := by
  rcases h.2 with ⟨rfl, h0⟩ | ⟨g, cap, cur, rfl, h2, -⟩
  · cases hk
  · cases hk; exact h2
theorem row_slice {w : World} {base e s : Nat} {v : Value} {n : Nat} {xs : List Value} (h : w.ownsRow base e s v n xs) : ∃ a c, v = .slice a n c := by
  rcases h.2 with ⟨rfl, h0⟩ | ⟨g, cap, cur, rfl, h2, -⟩
  · exact ⟨none, 0, by rw [h0]⟩
  · exact ⟨_, _, rfl⟩
theorem row_other {w : World} {base e s b j : Nat} {v x : Value} {n : Nat} {xs : List Value} (h : w.ownsRow base e s v n xs) (hb : b < base) : (w.setCell ⟨b, j, none⟩ x).ownsRow base e s v n xs := by
  refine ⟨h.1, ?_⟩
  rcases h.2 with h0 | ⟨g, cap, cur, h1, h2, h3, h4⟩
  · exact .inl h0
  · exact .inr ⟨g, cap, cur, h1, h2, (Below.heap_setCell w ⟨b, j, none⟩ x g (show g ≠ b by omega)).trans h3, h4⟩
theorem NJ.open (h : NJ lit G B Fin bf ac wv) (i : Nat) (hi : i < 13) (hf : bf i = false) :
    ∃ vs, ac = lit vs ∧ (bf 14 = true → vs 14 = .int .i64 0) ∧ bf 13 = false ∧ (bf 12 = true → bf 7 = true) ∧ B wv ∧ ∀ i, i < 13 → bf i = true → G (bf 7) i (vs i) wv := by
  obtain ⟨vs, h1, h2, ⟨h3, h4, h5, h6⟩ | ⟨-, h4, -⟩⟩ := h
  · exact ⟨vs, h1, h2, h3, h4, h5, h6⟩
  · rw [h4 i hi] at hf; cases hf
theorem NJ.next {vs : Nat → Value} (i : Nat) (hi : i < 13) (h7 : i ≠ 7) (h12 : i = 12 → bf 7 = true) {x : Value} {w' : World} {ac' : Act} (hac : ac' = lit (upv vs i x))
    (k : (bf 14 = true → vs 14 = .int .i64 0) ∧ bf 13 = false ∧ (bf 12 = true → bf 7 = true) ∧ ∀ i, i < 13 → bf i = true → G (bf 7) i (vs i) wv)
    (hb : B w') (hs : ∀ k v, G (bf 7) k v wv → G (bf 7) k v w') (hx : G (bf 7) i x w') : NJ lit G B Fin (up bf i) ac' w' := by
  obtain ⟨k1, k2, k3, k4⟩ := k
  refine ⟨upv vs i x, hac, fun h => ?_, .inl ⟨?_, fun h => ?_, hb, fun j hj hu => ?_⟩⟩
  · rw [up_ne _ _ _ (by omega)] at h; rw [upv_ne _ _ _ _ (by omega)]; exact k1 h
  · rw [up_ne _ _ _ (by omega)]; exact k2
  · rw [up_ne _ _ _ (Ne.symm h7)]
    by_cases e : 12 = i
    · exact h12 e.symm
    · rw [up_ne _ _ _ e] at h; exact k3 h
  · rw [up_ne _ _ _ (Ne.symm h7)]
    by_cases e : j = i
    · subst e; rw [upv_same]; exact hx
    · rw [up_ne _ _ _ e] at hu; rw [upv_ne _ _ _ _ e]; exact hs _ _ (k4 j hj hu)
theorem NJ.next7 {vs : Nat → Value} {x : Value} {w' : World} {ac' : Act} (hac : ac' = lit (upv vs 7 x)) (hf : bf 7 = false)
    (k : (bf 14 = true → vs 14 = .int .i64 0) ∧ bf 13 = false ∧ (bf 12 = true → bf 7 = true) ∧ ∀ i, i < 13 → bf i = true → G (bf 7) i (vs i) wv)
    (hb : B w') (hs : ∀ k v, k ≠ 12 → k ≠ 7 → G false k v wv → G true k v w') (hx : G true 7 x w') : NJ lit G B Fin (up bf 7) ac' w' := by
  obtain ⟨k1, k2, k3, k4⟩ := k
  refine ⟨upv vs 7 x, hac, fun h => ?_, .inl ⟨?_, fun h => up_same _ _, hb, fun j hj hu => ?_⟩⟩
  · rw [up_ne _ _ _ (by omega)] at h; rw [upv_ne _ _ _ _ (by omega)]; exact k1 h
  · rw [up_ne _ _ _ (by omega)]; exact k2
  · rw [up_same]
    by_cases e : j = 7
    · subst e; rw [upv_same]; exact hx
    · rw [up_ne _ _ _ e] at hu; rw [upv_ne _ _ _ _ e]
      have h2 := k4 j hj hu
      rw [hf] at h2
      refine hs _ _ (fun e2 => ?_) e h2
      subst e2; rw [k3 hu] at hf; cases hf
/-- What comes up in 'Narrow's last region: d tells whether the list is already longer. -/
def Gn (id tag : Int) (l : List Cv) (c : Cv) (sl : Value) (p2 n0 : Nat) : Bool → Nat → Value → World → Prop
  | _, 0, v, _ => v = .pointer (some ⟨p2, 0, none⟩)
  | _, 1, v, _ => v = .int .i64 id
  | _, 2, v, _ => v = .pointer (some ⟨p2, 1, none⟩)
  | _, 3, v, _ => v = sl
  | d, 4, v, w => d = false → w.ownsRow n0 24 2 v l.length (ccs l)
  | _, 5, v, _ => v = .agg #[.int .i64 c.k, .int .i64 c.v]
  | d, 6, v, w => d = false → ∃ g, v = .slice (some ⟨g, 0, none⟩) 1 1 ∧ Cs w g #[.int .i64 c.k, .int .i64 c.v]
  | _, 7, v, w => w.ownsRow n0 24 2 v (l.length + 1) (ccs (l ++ [c]))
  | _, 8, v, _ => v = .pointer (some ⟨p2, 2, none⟩)
  | _, 9, v, _ => v = .int .i64 tag
  | _, 10, v, _ => v = .agg #[.int .i64 c.k, .int .i64 c.v]
  | _, 11, v, _ => v = .int .i64 (tgN tag c)
  | _, 12, v, w => ∃ u, v = .agg #[.int .i64 id, u, .int .i64 (tgN tag c)] ∧ w.ownsRow n0 24 2 u (l.length + 1) (ccs (l ++ [c]))
  | _, _, _, _ => True
theorem Gn.step {id tag : Int} {l : List Cv} {c : Cv} {sl : Value} {p2 n0 : Nat} {d : Bool} {w w1 : World} (hb : Below w.heap.size w w1) : ∀ k v, Gn id tag l c sl p2 n0 d k v w → Gn id tag l c sl p2 n0 d k v w1
  | 0, _, h => h
  | 1, _, h => h
  | 2, _, h => h
  | 3, _, h => h
  | 4, _, h => fun e => row_step (h e) hb
  | 5, _, h => h
  | 6, _, h => fun e => by
    obtain ⟨g, h1, h2⟩ := h e
    exact ⟨g, h1, h2.step hb⟩
  | 7, _, h => row_step h hb
  | 8, _, h => h
  | 9, _, h => h
  | 10, _, h => h
  | 11, _, h => h
  | 12, _, h => by
    obtain ⟨u, h1, h2⟩ := h
    exact ⟨u, h1, row_step h2 hb⟩
  | _ + 13, _, _ => trivial
theorem Gn.long {id tag : Int} {l : List Cv} {c : Cv} {sl : Value} {p2 n0 : Nat} {w w1 : World} : ∀ k v, k ≠ 12 → k ≠ 7 → Gn id tag l c sl p2 n0 false k v w → Gn id tag l c sl p2 n0 true k v w1
  | 0, _, _, _, h => h
  | 1, _, _, _, h => h
  | 2, _, _, _, h => h
  | 3, _, _, _, h => h
  | 4, _, _, _, _ => fun e => by cases e
  | 5, _, _, _, h => h
  | 6, _, _, _, _ => fun e => by cases e
  | 7, _, _, h, _ => absurd rfl h
  | 8, _, _, _, h => h
  | 9, _, _, _, h => h
  | 10, _, _, _, h => h
  | 11, _, _, _, h => h
  | 12, _, h, _, _ => absurd rfl h
  | _ + 13, _, _, _, _ => trivial
set_option maxRecDepth 100000 in
set_option maxHeartbeats 4000000 in
theorem narrow_bad1 (id tag k v : Int) (sl : Value) (l : List Cv) (w : World) (h : CvsAt w sl l) (hc : capB id tag l = false) : Calls Try.prog 14 #[.agg #[.int .i64 id, sl, .int .i64 tag], .agg #[.int .i64 k, .int .i64 v]] w fun e w' => e = .returned (.tuple #[.agg #[.int .i64 0, .slice none 0 0, .int .i64 0], .int .i64 1]) ∧ Below w.heap.size w w' := by
  have H := Lib.hid h
  obtain ⟨a, cap, rfl, hcp, hm, -⟩ := h
  have HC := Lib.hid hc
  clear hc hcp hm
  have HB0 := Lib.hid (Below.refl w.heap.size w)
  go_enter Try.func14, Try.ntmps14
  have KA_1 := Lib.hid (Cs.new w (w.heap.size) #[.int .i64 id, .slice a l.length cap, .int .i64 tag] 30 (by simp))
  have HB2 : Hid (Below w.heap.size w (w.alloc (.cells #[.int .i64 id, .slice a l.length cap, .int .i64 tag] 30))) := HB0.out.alloc HB0.out.size _
  clear HB0
  have KA_3 := Lib.hid (KA_1.out.alloc (.cells #[.int .i64 k, .int .i64 v] 24))
  clear KA_1
  have KV_4 := Lib.hid (Cs.new (w.alloc (.cells #[.int .i64 id, .slice a l.length cap, .int .i64 tag] 30)) (w.heap.size + 1) #[.int .i64 k, .int .i64 v] 24 (by simp))
  have HB5 : Hid (Below w.heap.size w ((w.alloc (.cells #[.int .i64 id, .slice a l.length cap, .int .i64 tag] 30)).alloc (.cells #[.int .i64 k, .int .i64 v] 24))) := HB2.out.alloc HB2.out.size _
  clear HB2
  have KA_6 := Lib.hid (KA_3.out.alloc (.cells #[.int .i64 0, .slice none 0 0, .int .i64 0] 30))
  clear KA_3
  have KV_7 := Lib.hid (KV_4.out.alloc (.cells #[.int .i64 0, .slice none 0 0, .int .i64 0] 30))
  clear KV_4
  have KR_8 := Lib.hid (Cs.new ((w.alloc (.cells #[.int .i64 id, .slice a l.length cap, .int .i64 tag] 30)).alloc (.cells #[.int .i64 k, .int .i64 v] 24)) (w.heap.size + 1 + 1) #[.int .i64 0, .slice none 0 0, .int .i64 0] 30 (by simp))
  have HB9 : Hid (Below w.heap.size w (((w.alloc (.cells #[.int .i64 id, .slice a l.length cap, .int .i64 tag] 30)).alloc (.cells #[.int .i64 k, .int .i64 v] 24)).alloc (.cells #[.int .i64 0, .slice none 0 0, .int .i64 0] 30))) := HB5.out.alloc HB5.out.size _
  clear HB5
  have xA0 : (((w.alloc (.cells #[.int .i64 id, .slice a l.length cap, .int .i64 tag] 30)).alloc (.cells #[.int .i64 k, .int .i64 v] 24)).alloc (.cells #[.int .i64 0, .slice none 0 0, .int .i64 0] 30)).cell? ⟨w.heap.size, 0, none⟩ = some (.int .i64 id) := KA_6.out.c 0 rfl
  have xA1 : (((w.alloc (.cells #[.int .i64 id, .slice a l.length cap, .int .i64 tag] 30)).alloc (.cells #[.int .i64 k, .int .i64 v] 24)).alloc (.cells #[.int .i64 0, .slice none 0 0, .int .i64 0] 30)).cell? ⟨w.heap.size, 1, none⟩ = some (.slice a l.length cap) := KA_6.out.c 1 rfl
  have xA2 : (((w.alloc (.cells #[.int .i64 id, .slice a l.length cap, .int .i64 tag] 30)).alloc (.cells #[.int .i64 k, .int .i64 v] 24)).alloc (.cells #[.int .i64 0, .slice none 0 0, .int .i64 0] 30)).cell? ⟨w.heap.size, 2, none⟩ = some (.int .i64 tag) := KA_6.out.c 2 rfl
  have zA : w.heap.size < (((w.alloc (.cells #[.int .i64 id, .slice a l.length cap, .int .i64 tag] 30)).alloc (.cells #[.int .i64 k, .int .i64 v] 24)).alloc (.cells #[.int .i64 0, .slice none 0 0, .int .i64 0] 30)).heap.size := KA_6.out.2.2
  have z2A : w.heap.size < (((w.alloc (.cells #[.int .i64 id, .slice a l.length cap, .int .i64 tag] 30)).alloc (.cells #[.int .i64 k, .int .i64 v] 24)).alloc (.cells #[.int .i64 0, .slice none 0 0, .int .i64 0] 30)).heap.size + 1 := by omega
  have xV0 : (((w.alloc (.cells #[.int .i64 id, .slice a l.length cap, .int .i64 tag] 30)).alloc (.cells #[.int .i64 k, .int .i64 v] 24)).alloc (.cells #[.int .i64 0, .slice none 0 0, .int .i64 0] 30)).cell? ⟨w.heap.size + 1, 0, none⟩ = some (.int .i64 k) := KV_7.out.c 0 rfl
  have xV1 : (((w.alloc (.cells #[.int .i64 id, .slice a l.length cap, .int .i64 tag] 30)).alloc (.cells #[.int .i64 k, .int .i64 v] 24)).alloc (.cells #[.int .i64 0, .slice none 0 0, .int .i64 0] 30)).cell? ⟨w.heap.size + 1, 1, none⟩ = some (.int .i64 v) := KV_7.out.c 1 rfl
  have zV : w.heap.size + 1 < (((w.alloc (.cells #[.int .i64 id, .slice a l.length cap, .int .i64 tag] 30)).alloc (.cells #[.int .i64 k, .int .i64 v] 24)).alloc (.cells #[.int .i64 0, .slice none 0 0, .int .i64 0] 30)).heap.size := KV_7.out.2.2
  have z2V : w.heap.size + 1 < (((w.alloc (.cells #[.int .i64 id, .slice a l.length cap, .int .i64 tag] 30)).alloc (.cells #[.int .i64 k, .int .i64 v] 24)).alloc (.cells #[.int .i64 0, .slice none 0 0, .int .i64 0] 30)).heap.size + 1 := by omega
  go_wp2_with fail
  refine (isCap_any id tag _ l _ (H.out.step HB9.out)).mono ?_
  rintro e u1 ⟨rfl, b1⟩
  clear xA0 xA1 xA2 zA z2A xV0 xV1 zV z2V
  have KA_10 := Lib.hid (KA_6.out.step b1)
  clear KA_6
  have KV_11 := Lib.hid (KV_7.out.step b1)
  clear KV_7
  have KR_12 := Lib.hid (KR_8.out.step b1)
  clear KR_8
  have HB13 := Lib.hid (keep2 b1 HB9.out)
  clear HB9 b1
  rw [HC.out]
  have xR0 : u1.cell? ⟨w.heap.size + 1 + 1, 0, none⟩ = some (.int .i64 0) := KR_12.out.c 0 rfl
  have yR0 : u1.frozen? ⟨w.heap.size + 1 + 1, 0, none⟩ = false := KR_12.out.f 0 (by simp)
  have xR1 : u1.cell? ⟨w.heap.size + 1 + 1, 1, none⟩ = some (.slice none 0 0) := KR_12.out.c 1 rfl
  have yR1 : u1.frozen? ⟨w.heap.size + 1 + 1, 1, none⟩ = false := KR_12.out.f 1 (by simp)
  have xR2 : u1.cell? ⟨w.heap.size + 1 + 1, 2, none⟩ = some (.int .i64 0) := KR_12.out.c 2 rfl
  have yR2 : u1.frozen? ⟨w.heap.size + 1 + 1, 2, none⟩ = false := KR_12.out.f 2 (by simp)
  have zR : w.heap.size + 1 + 1 < u1.heap.size := KR_12.out.2.2
  have z2R : w.heap.size + 1 + 1 < u1.heap.size + 1 := by omega
  go_wp2
  exact bodyPost_ret (v := .tuple #[.agg #[.int .i64 0, .slice none 0 0, .int .i64 0], .int .i64 1]) (by simp [results, Try.results14, go_sem, xR0, xR1, xR2]) rfl ⟨rfl, (by repeat (first | with_reducible exact HB13.out | with_reducible exact Below.refl _ _ | ((with_reducible refine Below.setCell ?_ ?_ _); rotate_left; focus (first | (simp; done) | (simp; omega) | omega)) | ((with_reducible refine Below.alloc ?_ ?_ _); rotate_left; focus (first | (simp; done) | (simp; omega) | omega)) | with_reducible refine Below.trans ?_ (below_drewN' _ _ _) | with_reducible refine Below.trans ?_ (below_drew _ _)))⟩
set_option maxRecDepth 100000 in
set_option maxHeartbeats 4000000 in
theorem narrow_bad2 (id tag k v : Int) (sl : Value) (l : List Cv) (w : World) (h : CvsAt w sl l) (hc : capB id tag l = true) (hv : cvB k v = false) : Calls Try.prog 14 #[.agg #[.int .i64 id, sl, .int .i64 tag], .agg #[.int .i64 k, .int .i64 v]] w fun e w' => e = .returned (.tuple #[.agg #[.int .i64 0, .slice none 0 0, .int .i64 0], .int .i64 1]) ∧ Below w.heap.size w w' := by
  have H := Lib.hid h
  obtain ⟨a, cap, rfl, hcp, hm, -⟩ := h
  have HC := Lib.hid hc
  have HV := Lib.hid hv
  clear hc hv hcp hm
  have HB0 := Lib.hid (Below.refl w.heap.size w)
  go_enter Try.func14, Try.ntmps14
  have KA_1 := Lib.hid (Cs.new w (w.heap.size) #[.int .i64 id, .slice a l.length cap, .int .i64 tag] 30 (by simp))
  have HB2 : Hid (Below w.heap.size w (w.alloc (.cells #[.int .i64 id, .slice a l.length cap, .int .i64 tag] 30))) := HB0.out.alloc HB0.out.size _
  clear HB0
  have KA_3 := Lib.hid (KA_1.out.alloc (.cells #[.int .i64 k, .int .i64 v] 24))
  clear KA_1
  have KV_4 := Lib.hid (Cs.new (w.alloc (.cells #[.int .i64 id, .slice a l.length cap, .int .i64 tag] 30)) (w.heap.size + 1) #[.int .i64 k, .int .i64 v] 24 (by simp))
  have HB5 : Hid (Below w.heap.size w ((w.alloc (.cells #[.int .i64 id, .slice a l.length cap, .int .i64 tag] 30)).alloc (.cells #[.int .i64 k, .int .i64 v] 24))) := HB2.out.alloc HB2.out.size _
  clear HB2
  have KA_6 := Lib.hid (KA_3.out.alloc (.cells #[.int .i64 0, .slice none 0 0, .int .i64 0] 30))
  clear KA_3
  have KV_7 := Lib.hid (KV_4.out.alloc (.cells #[.int .i64 0, .slice none 0 0, .int .i64 0] 30))
  clear KV_4
  have KR_8 := Lib.hid (Cs.new ((w.alloc (.cells #[.int .i64 id, .slice a l.length cap, .int .i64 tag] 30)).alloc (.cells #[.int .i64 k, .int .i64 v] 24)) (w.heap.size + 1 + 1) #[.int .i64 0, .slice none 0 0, .int .i64 0] 30 (by simp))
  have HB9 : Hid (Below w.heap.size w (((w.alloc (.cells #[.int .i64 id, .slice a l.length cap, .int .i64 tag] 30)).alloc (.cells #[.int .i64 k, .int .i64 v] 24)).alloc (.cells #[.int .i64 0, .slice none 0 0, .int .i64 0] 30))) := HB5.out.alloc HB5.out.size _
  clear HB5
  have xA0 : (((w.alloc (.cells #[.int .i64 id, .slice a l.length cap, .int .i64 tag] 30)).alloc (.cells #[.int .i64 k, .int .i64 v] 24)).alloc (.cells #[.int .i64 0, .slice none 0 0, .int .i64 0] 30)).cell? ⟨w.heap.size, 0, none⟩ = some (.int .i64 id) := KA_6.out.c 0 rfl
  have xA1 : (((w.alloc (.cells #[.int .i64 id, .slice a l.length cap, .int .i64 tag] 30)).alloc (.cells #[.int .i64 k, .int .i64 v] 24)).alloc (.cells #[.int .i64 0, .slice none 0 0, .int .i64 0] 30)).cell? ⟨w.heap.size, 1, none⟩ = some (.slice a l.length cap) := KA_6.out.c 1 rfl
  have xA2 : (((w.alloc (.cells #[.int .i64 id, .slice a l.length cap, .int .i64 tag] 30)).alloc (.cells #[.int .i64 k, .int .i64 v] 24)).alloc (.cells #[.int .i64 0, .slice none 0 0, .int .i64 0] 30)).cell? ⟨w.heap.size, 2, none⟩ = some (.int .i64 tag) := KA_6.out.c 2 rfl
  have zA : w.heap.size < (((w.alloc (.cells #[.int .i64 id, .slice a l.length cap, .int .i64 tag] 30)).alloc (.cells #[.int .i64 k, .int .i64 v] 24)).alloc (.cells #[.int .i64 0, .slice none 0 0, .int .i64 0] 30)).heap.size := KA_6.out.2.2
  have z2A : w.heap.size < (((w.alloc (.cells #[.int .i64 id, .slice a l.length cap, .int .i64 tag] 30)).alloc (.cells #[.int .i64 k, .int .i64 v] 24)).alloc (.cells #[.int .i64 0, .slice none 0 0, .int .i64 0] 30)).heap.size + 1 := by omega
  have xV0 : (((w.alloc (.cells #[.int .i64 id, .slice a l.length cap, .int .i64 tag] 30)).alloc (.cells #[.int .i64 k, .int .i64 v] 24)).alloc (.cells #[.int .i64 0, .slice none 0 0, .int .i64 0] 30)).cell? ⟨w.heap.size + 1, 0, none⟩ = some (.int .i64 k) := KV_7.out.c 0 rfl
  have xV1 : (((w.alloc (.cells #[.int .i64 id, .slice a l.length cap, .int .i64 tag] 30)).alloc (.cells #[.int .i64 k, .int .i64 v] 24)).alloc (.cells #[.int .i64 0, .slice none 0 0, .int .i64 0] 30)).cell? ⟨w.heap.size + 1, 1, none⟩ = some (.int .i64 v) := KV_7.out.c 1 rfl
  have zV : w.heap.size + 1 < (((w.alloc (.cells #[.int .i64 id, .slice a l.length cap, .int .i64 tag] 30)).alloc (.cells #[.int .i64 k, .int .i64 v] 24)).alloc (.cells #[.int .i64 0, .slice none 0 0, .int .i64 0] 30)).heap.size := KV_7.out.2.2
  have z2V : w.heap.size + 1 < (((w.alloc (.cells #[.int .i64 id, .slice a l.length cap, .int .i64 tag] 30)).alloc (.cells #[.int .i64 k, .int .i64 v] 24)).alloc (.cells #[.int .i64 0, .slice none 0 0, .int .i64 0] 30)).heap.size + 1 := by omega
  go_wp2_with fail
  refine (isCap_any id tag _ l _ (H.out.step HB9.out)).mono ?_
  rintro e u1 ⟨rfl, b1⟩
  clear xA0 xA1 xA2 zA z2A xV0 xV1 zV z2V
  have KA_10 := Lib.hid (KA_6.out.step b1)
  clear KA_6
  have KV_11 := Lib.hid (KV_7.out.step b1)
  clear KV_7
  have KR_12 := Lib.hid (KR_8.out.step b1)
  clear KR_8
  have HB13 := Lib.hid (keep2 b1 HB9.out)
  clear HB9 b1
  rw [HC.out]
  have xV0 : u1.cell? ⟨w.heap.size + 1, 0, none⟩ = some (.int .i64 k) := KV_11.out.c 0 rfl
  have xV1 : u1.cell? ⟨w.heap.size + 1, 1, none⟩ = some (.int .i64 v) := KV_11.out.c 1 rfl
  have zV : w.heap.size + 1 < u1.heap.size := KV_11.out.2.2
  have z2V : w.heap.size + 1 < u1.heap.size + 1 := by omega
  go_wp2_with fail
  refine (isCaveat_any k v _).mono ?_
  rintro e u2 ⟨rfl, b2⟩
  clear xV0 xV1 zV z2V
  have KA_14 := Lib.hid (KA_10.out.step b2)
  clear KA_10
  have KV_15 := Lib.hid (KV_11.out.step b2)
  clear KV_11
  have KR_16 := Lib.hid (KR_12.out.step b2)
  clear KR_12
  have HB17 := Lib.hid (keep2 b2 HB13.out)
  clear HB13 b2
  rw [HV.out]
  have xR0 : u2.cell? ⟨w.heap.size + 1 + 1, 0, none⟩ = some (.int .i64 0) := KR_16.out.c 0 rfl
  have yR0 : u2.frozen? ⟨w.heap.size + 1 + 1, 0, none⟩ = false := KR_16.out.f 0 (by simp)
  have xR1 : u2.cell? ⟨w.heap.size + 1 + 1, 1, none⟩ = some (.slice none 0 0) := KR_16.out.c 1 rfl
  have yR1 : u2.frozen? ⟨w.heap.size + 1 + 1, 1, none⟩ = false := KR_16.out.f 1 (by simp)
  have xR2 : u2.cell? ⟨w.heap.size + 1 + 1, 2, none⟩ = some (.int .i64 0) := KR_16.out.c 2 rfl
  have yR2 : u2.frozen? ⟨w.heap.size + 1 + 1, 2, none⟩ = false := KR_16.out.f 2 (by simp)
  have zR : w.heap.size + 1 + 1 < u2.heap.size := KR_16.out.2.2
  have z2R : w.heap.size + 1 + 1 < u2.heap.size + 1 := by omega
  go_wp2
  exact bodyPost_ret (v := .tuple #[.agg #[.int .i64 0, .slice none 0 0, .int .i64 0], .int .i64 1]) (by simp [results, Try.results14, go_sem, xR0, xR1, xR2]) rfl ⟨rfl, (by repeat (first | with_reducible exact HB17.out | with_reducible exact Below.refl _ _ | ((with_reducible refine Below.setCell ?_ ?_ _); rotate_left; focus (first | (simp; done) | (simp; omega) | omega)) | ((with_reducible refine Below.alloc ?_ ?_ _); rotate_left; focus (first | (simp; done) | (simp; omega) | omega)) | with_reducible refine Below.trans ?_ (below_drewN' _ _ _) | with_reducible refine Below.trans ?_ (below_drew _ _)))⟩
set_option maxRecDepth 100000 in
set_option maxHeartbeats 4000000 in
theorem narrow_full (id tag k v : Int) (sl : Value) (l : List Cv) (w : World) (h : CvsAt w sl l) (hc : capB id tag l = true) (hv : cvB k v = true) (hn : l.length = 12) : Calls Try.prog 14 #[.agg #[.int .i64 id, sl, .int .i64 tag], .agg #[.int .i64 k, .int .i64 v]] w fun e w' => e = .returned (.tuple #[.agg #[.int .i64 0, .slice none 0 0, .int .i64 0], .int .i64 30]) ∧ Below w.heap.size w w' := by
  have H := Lib.hid h
  obtain ⟨a, cap, rfl, hcp, hm, -⟩ := h
  have HC := Lib.hid hc
  have HV := Lib.hid hv
  have hn2 : ((l.length : Int) == 12) = true := by simp; omega
  have hn3 : decide ((l.length : Int) = 12) = true := by simp; omega
  replace hn := Lib.hid hn
  clear hc hv hcp hm
  have HB0 := Lib.hid (Below.refl w.heap.size w)
  go_enter Try.func14, Try.ntmps14
  have KA_1 := Lib.hid (Cs.new w (w.heap.size) #[.int .i64 id, .slice a l.length cap, .int .i64 tag] 30 (by simp))
  have HB2 : Hid (Below w.heap.size w (w.alloc (.cells #[.int .i64 id, .slice a l.length cap, .int .i64 tag] 30))) := HB0.out.alloc HB0.out.size _
  clear HB0
  have KA_3 := Lib.hid (KA_1.out.alloc (.cells #[.int .i64 k, .int .i64 v] 24))
  clear KA_1
  have KV_4 := Lib.hid (Cs.new (w.alloc (.cells #[.int .i64 id, .slice a l.length cap, .int .i64 tag] 30)) (w.heap.size + 1) #[.int .i64 k, .int .i64 v] 24 (by simp))
  have HB5 : Hid (Below w.heap.size w ((w.alloc (.cells #[.int .i64 id, .slice a l.length cap, .int .i64 tag] 30)).alloc (.cells #[.int .i64 k, .int .i64 v] 24))) := HB2.out.alloc HB2.out.size _
  clear HB2
  have KA_6 := Lib.hid (KA_3.out.alloc (.cells #[.int .i64 0, .slice none 0 0, .int .i64 0] 30))
  clear KA_3
  have KV_7 := Lib.hid (KV_4.out.alloc (.cells #[.int .i64 0, .slice none 0 0, .int .i64 0] 30))
  clear KV_4
  have KR_8 := Lib.hid (Cs.new ((w.alloc (.cells #[.int .i64 id, .slice a l.length cap, .int .i64 tag] 30)).alloc (.cells #[.int .i64 k, .int .i64 v] 24)) (w.heap.size + 1 + 1) #[.int .i64 0, .slice none 0 0, .int .i64 0] 30 (by simp))
  have HB9 : Hid (Below w.heap.size w (((w.alloc (.cells #[.int .i64 id, .slice a l.length cap, .int .i64 tag] 30)).alloc (.cells #[.int .i64 k, .int .i64 v] 24)).alloc (.cells #[.int .i64 0, .slice none 0 0, .int .i64 0] 30))) := HB5.out.alloc HB5.out.size _
  clear HB5
  have xA0 : (((w.alloc (.cells #[.int .i64 id, .slice a l.length cap, .int .i64 tag] 30)).alloc (.cells #[.int .i64 k, .int .i64 v] 24)).alloc (.cells #[.int .i64 0, .slice none 0 0, .int .i64 0] 30)).cell? ⟨w.heap.size, 0, none⟩ = some (.int .i64 id) := KA_6.out.c 0 rfl
  have xA1 : (((w.alloc (.cells #[.int .i64 id, .slice a l.length cap, .int .i64 tag] 30)).alloc (.cells #[.int .i64 k, .int .i64 v] 24)).alloc (.cells #[.int .i64 0, .slice none 0 0, .int .i64 0] 30)).cell? ⟨w.heap.size, 1, none⟩ = some (.slice a l.length cap) := KA_6.out.c 1 rfl
  have xA2 : (((w.alloc (.cells #[.int .i64 id, .slice a l.length cap, .int .i64 tag] 30)).alloc (.cells #[.int .i64 k, .int .i64 v] 24)).alloc (.cells #[.int .i64 0, .slice none 0 0, .int .i64 0] 30)).cell? ⟨w.heap.size, 2, none⟩ = some (.int .i64 tag) := KA_6.out.c 2 rfl
  have zA : w.heap.size < (((w.alloc (.cells #[.int .i64 id, .slice a l.length cap, .int .i64 tag] 30)).alloc (.cells #[.int .i64 k, .int .i64 v] 24)).alloc (.cells #[.int .i64 0, .slice none 0 0, .int .i64 0] 30)).heap.size := KA_6.out.2.2
  have z2A : w.heap.size < (((w.alloc (.cells #[.int .i64 id, .slice a l.length cap, .int .i64 tag] 30)).alloc (.cells #[.int .i64 k, .int .i64 v] 24)).alloc (.cells #[.int .i64 0, .slice none 0 0, .int .i64 0] 30)).heap.size + 1 := by omega
  have xV0 : (((w.alloc (.cells #[.int .i64 id, .slice a l.length cap, .int .i64 tag] 30)).alloc (.cells #[.int .i64 k, .int .i64 v] 24)).alloc (.cells #[.int .i64 0, .slice none 0 0, .int .i64 0] 30)).cell? ⟨w.heap.size + 1, 0, none⟩ = some (.int .i64 k) := KV_7.out.c 0 rfl
  have xV1 : (((w.alloc (.cells #[.int .i64 id, .slice a l.length cap, .int .i64 tag] 30)).alloc (.cells #[.int .i64 k, .int .i64 v] 24)).alloc (.cells #[.int .i64 0, .slice none 0 0, .int .i64 0] 30)).cell? ⟨w.heap.size + 1, 1, none⟩ = some (.int .i64 v) := KV_7.out.c 1 rfl
  have zV : w.heap.size + 1 < (((w.alloc (.cells #[.int .i64 id, .slice a l.length cap, .int .i64 tag] 30)).alloc (.cells #[.int .i64 k, .int .i64 v] 24)).alloc (.cells #[.int .i64 0, .slice none 0 0, .int .i64 0] 30)).heap.size := KV_7.out.2.2
  have z2V : w.heap.size + 1 < (((w.alloc (.cells #[.int .i64 id, .slice a l.length cap, .int .i64 tag] 30)).alloc (.cells #[.int .i64 k, .int .i64 v] 24)).alloc (.cells #[.int .i64 0, .slice none 0 0, .int .i64 0] 30)).heap.size + 1 := by omega
  go_wp2_with fail
  refine (isCap_any id tag _ l _ (H.out.step HB9.out)).mono ?_
  rintro e u1 ⟨rfl, b1⟩
  clear xA0 xA1 xA2 zA z2A xV0 xV1 zV z2V
  have KA_10 := Lib.hid (KA_6.out.step b1)
  clear KA_6
  have KV_11 := Lib.hid (KV_7.out.step b1)
  clear KV_7
  have KR_12 := Lib.hid (KR_8.out.step b1)
  clear KR_8
  have HB13 := Lib.hid (keep2 b1 HB9.out)
  clear HB9 b1
  rw [HC.out]
  have xV0 : u1.cell? ⟨w.heap.size + 1, 0, none⟩ = some (.int .i64 k) := KV_11.out.c 0 rfl
  have xV1 : u1.cell? ⟨w.heap.size + 1, 1, none⟩ = some (.int .i64 v) := KV_11.out.c 1 rfl
  have zV : w.heap.size + 1 < u1.heap.size := KV_11.out.2.2
  have z2V : w.heap.size + 1 < u1.heap.size + 1 := by omega
  go_wp2_with fail
  refine (isCaveat_any k v _).mono ?_
  rintro e u2 ⟨rfl, b2⟩
  clear xV0 xV1 zV z2V
  have KA_14 := Lib.hid (KA_10.out.step b2)
  clear KA_10
  have KV_15 := Lib.hid (KV_11.out.step b2)
  clear KV_11
  have KR_16 := Lib.hid (KR_12.out.step b2)
  clear KR_12
  have HB17 := Lib.hid (keep2 b2 HB13.out)
  clear HB13 b2
  rw [HV.out]
  have xA0 : u2.cell? ⟨w.heap.size, 0, none⟩ = some (.int .i64 id) := KA_14.out.c 0 rfl
  have xA1 : u2.cell? ⟨w.heap.size, 1, none⟩ = some (.slice a l.length cap) := KA_14.out.c 1 rfl
  have xA2 : u2.cell? ⟨w.heap.size, 2, none⟩ = some (.int .i64 tag) := KA_14.out.c 2 rfl
  have zA : w.heap.size < u2.heap.size := KA_14.out.2.2
  have z2A : w.heap.size < u2.heap.size + 1 := by omega
  have xR0 : u2.cell? ⟨w.heap.size + 1 + 1, 0, none⟩ = some (.int .i64 0) := KR_16.out.c 0 rfl
  have yR0 : u2.frozen? ⟨w.heap.size + 1 + 1, 0, none⟩ = false := KR_16.out.f 0 (by simp)
  have xR1 : u2.cell? ⟨w.heap.size + 1 + 1, 1, none⟩ = some (.slice none 0 0) := KR_16.out.c 1 rfl
  have yR1 : u2.frozen? ⟨w.heap.size + 1 + 1, 1, none⟩ = false := KR_16.out.f 1 (by simp)
  have xR2 : u2.cell? ⟨w.heap.size + 1 + 1, 2, none⟩ = some (.int .i64 0) := KR_16.out.c 2 rfl
  have yR2 : u2.frozen? ⟨w.heap.size + 1 + 1, 2, none⟩ = false := KR_16.out.f 2 (by simp)
  have zR : w.heap.size + 1 + 1 < u2.heap.size := KR_16.out.2.2
  have z2R : w.heap.size + 1 + 1 < u2.heap.size + 1 := by omega
  go_wp2
  exact bodyPost_ret (v := .tuple #[.agg #[.int .i64 0, .slice none 0 0, .int .i64 0], .int .i64 30]) (by simp [results, Try.results14, go_sem, xR0, xR1, xR2]) rfl ⟨rfl, (by repeat (first | with_reducible exact HB17.out | with_reducible exact Below.refl _ _ | ((with_reducible refine Below.setCell ?_ ?_ _); rotate_left; focus (first | (simp; done) | (simp; omega) | omega)) | ((with_reducible refine Below.alloc ?_ ?_ _); rotate_left; focus (first | (simp; done) | (simp; omega) | omega)) | with_reducible refine Below.trans ?_ (below_drewN' _ _ _) | with_reducible refine Below.trans ?_ (below_drew _ _)))⟩
set_option maxRecDepth 100000 in
set_option maxHeartbeats 4000000 in
theorem narrow_ok (id tag k v : Int) (sl : Value) (l : List Cv) (w : World) (h : CvsAt w sl l) (hc : capB id tag l = true) (hv : cvB k v = true) (hn : l.length < 12) : Calls Try.prog 14 #[.agg #[.int .i64 id, sl, .int .i64 tag], .agg #[.int .i64 k, .int .i64 v]] w fun e w' => ∃ u, e = .returned (.tuple #[.agg #[.int .i64 id, u, .int .i64 (tgN tag ⟨k, v⟩)], .int .i64 0]) ∧ CvsAt w' u (l ++ [⟨k, v⟩]) ∧ Below w.heap.size w w' := by
  have H := Lib.hid h
  obtain ⟨a, cap, rfl, hcp, hm, -⟩ := h
  have HC := Lib.hid hc
  have HV := Lib.hid hv
  have hn2 : ((l.length : Int) == 12) = false := by simp; omega
  have hn3 : decide ((l.length : Int) = 12) = false := by simp; omega
  replace hn := Lib.hid hn
  clear hc hv hcp hm
  obtain ⟨i0, hi, hz0, hz1, hz2⟩ := info_parts info26
  have HB0 := Lib.hid (Below.refl w.heap.size w)
  go_enter Try.func14, Try.ntmps14
  have KA_1 := Lib.hid (Cs.new w (w.heap.size) #[.int .i64 id, .slice a l.length cap, .int .i64 tag] 30 (by simp))
  have HB2 : Hid (Below w.heap.size w (w.alloc (.cells #[.int .i64 id, .slice a l.length cap, .int .i64 tag] 30))) := HB0.out.alloc HB0.out.size _
  clear HB0
  have KA_3 := Lib.hid (KA_1.out.alloc (.cells #[.int .i64 k, .int .i64 v] 24))
  clear KA_1
  have KV_4 := Lib.hid (Cs.new (w.alloc (.cells #[.int .i64 id, .slice a l.length cap, .int .i64 tag] 30)) (w.heap.size + 1) #[.int .i64 k, .int .i64 v] 24 (by simp))
  have HB5 : Hid (Below w.heap.size w ((w.alloc (.cells #[.int .i64 id, .slice a l.length cap, .int .i64 tag] 30)).alloc (.cells #[.int .i64 k, .int .i64 v] 24))) := HB2.out.alloc HB2.out.size _
  clear HB2
  have KA_6 := Lib.hid (KA_3.out.alloc (.cells #[.int .i64 0, .slice none 0 0, .int .i64 0] 30))
  clear KA_3
  have KV_7 := Lib.hid (KV_4.out.alloc (.cells #[.int .i64 0, .slice none 0 0, .int .i64 0] 30))
  clear KV_4
  have KR_8 := Lib.hid (Cs.new ((w.alloc (.cells #[.int .i64 id, .slice a l.length cap, .int .i64 tag] 30)).alloc (.cells #[.int .i64 k, .int .i64 v] 24)) (w.heap.size + 1 + 1) #[.int .i64 0, .slice none 0 0, .int .i64 0] 30 (by simp))
  have HB9 : Hid (Below w.heap.size w (((w.alloc (.cells #[.int .i64 id, .slice a l.length cap, .int .i64 tag] 30)).alloc (.cells #[.int .i64 k, .int .i64 v] 24)).alloc (.cells #[.int .i64 0, .slice none 0 0, .int .i64 0] 30))) := HB5.out.alloc HB5.out.size _
  clear HB5
  have xA0 : (((w.alloc (.cells #[.int .i64 id, .slice a l.length cap, .int .i64 tag] 30)).alloc (.cells #[.int .i64 k, .int .i64 v] 24)).alloc (.cells #[.int .i64 0, .slice none 0 0, .int .i64 0] 30)).cell? ⟨w.heap.size, 0, none⟩ = some (.int .i64 id) := KA_6.out.c 0 rfl
  have xA1 : (((w.alloc (.cells #[.int .i64 id, .slice a l.length cap, .int .i64 tag] 30)).alloc (.cells #[.int .i64 k, .int .i64 v] 24)).alloc (.cells #[.int .i64 0, .slice none 0 0, .int .i64 0] 30)).cell? ⟨w.heap.size, 1, none⟩ = some (.slice a l.length cap) := KA_6.out.c 1 rfl
  have xA2 : (((w.alloc (.cells #[.int .i64 id, .slice a l.length cap, .int .i64 tag] 30)).alloc (.cells #[.int .i64 k, .int .i64 v] 24)).alloc (.cells #[.int .i64 0, .slice none 0 0, .int .i64 0] 30)).cell? ⟨w.heap.size, 2, none⟩ = some (.int .i64 tag) := KA_6.out.c 2 rfl
  have zA : w.heap.size < (((w.alloc (.cells #[.int .i64 id, .slice a l.length cap, .int .i64 tag] 30)).alloc (.cells #[.int .i64 k, .int .i64 v] 24)).alloc (.cells #[.int .i64 0, .slice none 0 0, .int .i64 0] 30)).heap.size := KA_6.out.2.2
  have z2A : w.heap.size < (((w.alloc (.cells #[.int .i64 id, .slice a l.length cap, .int .i64 tag] 30)).alloc (.cells #[.int .i64 k, .int .i64 v] 24)).alloc (.cells #[.int .i64 0, .slice none 0 0, .int .i64 0] 30)).heap.size + 1 := by omega
  have xV0 : (((w.alloc (.cells #[.int .i64 id, .slice a l.length cap, .int .i64 tag] 30)).alloc (.cells #[.int .i64 k, .int .i64 v] 24)).alloc (.cells #[.int .i64 0, .slice none 0 0, .int .i64 0] 30)).cell? ⟨w.heap.size + 1, 0, none⟩ = some (.int .i64 k) := KV_7.out.c 0 rfl
  have xV1 : (((w.alloc (.cells #[.int .i64 id, .slice a l.length cap, .int .i64 tag] 30)).alloc (.cells #[.int .i64 k, .int .i64 v] 24)).alloc (.cells #[.int .i64 0, .slice none 0 0, .int .i64 0] 30)).cell? ⟨w.heap.size + 1, 1, none⟩ = some (.int .i64 v) := KV_7.out.c 1 rfl
  have zV : w.heap.size + 1 < (((w.alloc (.cells #[.int .i64 id, .slice a l.length cap, .int .i64 tag] 30)).alloc (.cells #[.int .i64 k, .int .i64 v] 24)).alloc (.cells #[.int .i64 0, .slice none 0 0, .int .i64 0] 30)).heap.size := KV_7.out.2.2
  have z2V : w.heap.size + 1 < (((w.alloc (.cells #[.int .i64 id, .slice a l.length cap, .int .i64 tag] 30)).alloc (.cells #[.int .i64 k, .int .i64 v] 24)).alloc (.cells #[.int .i64 0, .slice none 0 0, .int .i64 0] 30)).heap.size + 1 := by omega
  go_wp2_with fail
  refine (isCap_any id tag _ l _ (H.out.step HB9.out)).mono ?_
  rintro e u1 ⟨rfl, b1⟩
  clear xA0 xA1 xA2 zA z2A xV0 xV1 zV z2V
  have KA_10 := Lib.hid (KA_6.out.step b1)
  clear KA_6
  have KV_11 := Lib.hid (KV_7.out.step b1)
  clear KV_7
  have KR_12 := Lib.hid (KR_8.out.step b1)
  clear KR_8
  have HB13 := Lib.hid (keep2 b1 HB9.out)
  clear HB9 b1
  rw [HC.out]
  have xV0 : u1.cell? ⟨w.heap.size + 1, 0, none⟩ = some (.int .i64 k) := KV_11.out.c 0 rfl
  have xV1 : u1.cell? ⟨w.heap.size + 1, 1, none⟩ = some (.int .i64 v) := KV_11.out.c 1 rfl
  have zV : w.heap.size + 1 < u1.heap.size := KV_11.out.2.2
  have z2V : w.heap.size + 1 < u1.heap.size + 1 := by omega
  go_wp2_with fail
  refine (isCaveat_any k v _).mono ?_
  rintro e u2 ⟨rfl, b2⟩
  clear xV0 xV1 zV z2V
  have KA_14 := Lib.hid (KA_10.out.step b2)
  clear KA_10
  have KV_15 := Lib.hid (KV_11.out.step b2)
  clear KV_11
  have KR_16 := Lib.hid (KR_12.out.step b2)
  clear KR_12
  have HB17 := Lib.hid (keep2 b2 HB13.out)
  clear HB13 b2
  rw [HV.out]
  have xA0 : u2.cell? ⟨w.heap.size, 0, none⟩ = some (.int .i64 id) := KA_14.out.c 0 rfl
  have xA1 : u2.cell? ⟨w.heap.size, 1, none⟩ = some (.slice a l.length cap) := KA_14.out.c 1 rfl
  have xA2 : u2.cell? ⟨w.heap.size, 2, none⟩ = some (.int .i64 tag) := KA_14.out.c 2 rfl
  have zA : w.heap.size < u2.heap.size := KA_14.out.2.2
  have z2A : w.heap.size < u2.heap.size + 1 := by omega
  go_upto_region 5 with fail
  clear xA0 xA1 xA2 zA z2A
  obtain ⟨lit, hlit⟩ : ∃ lit : (Nat → Value) → Act, lit = fun vs => { tmps := #[Value.agg #[Value.int IntKind.i64 id, Value.slice a l.length cap, Value.int IntKind.i64 tag], Value.agg #[Value.int IntKind.i64 k, Value.int IntKind.i64 v], Value.pointer (some { block := w.heap.size, off := 0 }), Value.pointer (some { block := w.heap.size + 1, off := 0 }), Value.pointer (some { block := w.heap.size + 1 + 1, off := 0 }), vs 14, Value.agg #[Value.int IntKind.i64 id, Value.slice a l.length cap, Value.int IntKind.i64 tag], Value.bool true, Value.bool false, Value.bool false, Value.agg #[Value.int IntKind.i64 k, Value.int IntKind.i64 v], Value.bool true, Value.bool false, Value.bool false, undef, Value.pointer (some { block := w.heap.size, off := 1 }), Value.slice a l.length cap, Value.int IntKind.i64 (l.length : Int), Value.bool false, undef, vs 0, vs 1, vs 2, vs 3, vs 4, vs 5, vs 6, vs 7, vs 8, vs 9, vs 10, vs 11, vs 12], defers := [] } := ⟨_, rfl⟩
  have HLIT := Lib.hid hlit
  clear hlit
  have HS := Lib.hid (H.out.step HB17.out)
  have HZ := Lib.hid (show w.heap.size + 1 + 1 < u2.heap.size from KR_16.out.2.2)
  obtain ⟨G, hG0⟩ : ∃ G, G = Gn id tag l ⟨k, v⟩ (.slice a l.length cap) (w.heap.size) u2.heap.size := ⟨_, rfl⟩
  have HG := Lib.hid hG0
  clear hG0
  refine region_inv (NJ lit G (Below u2.heap.size u2) fun wv => ∃ u, Cs wv (w.heap.size + 1 + 1) #[.int .i64 id, u, .int .i64 (tgN tag ⟨k, v⟩)] ∧ CvsAt wv u (l ++ [⟨k, v⟩]) ∧ Below w.heap.size w wv) (by kernel_rfl) (by decide +kernel) ?_ ?_ ?_
  · exact NJ.start (fun i => ([undef, undef, undef, undef, undef, undef, undef, undef, undef, undef, undef, undef, undef, undef, .int .i64 0] : List Value).getD i undef) (by rw [HLIT.out]; rfl) (below_drew _ _)
  · refine ⟨?_, ?_, ?_, ?_, ?_, ?_, ?_, ?_, ?_, ?_, ?_, ?_, ?_, ?_, ?_, trivial⟩
    · intro bf ac wv hfb haf hJ K' hK
      obtain ⟨vs, rfl, j1, j2, j3, hM, j4⟩ := hJ.open 0 (by omega) hfb
      replace hK := Lib.hid hK
      have HM := Lib.hid hM
      clear hM
      rw [HG.out] at j4
      clear haf
      have JJ := Lib.hid (And.intro j1 (And.intro j2 (And.intro j3 j4)))
      clear j1 j2 j3 j4
      rw [HLIT.out]
      go_simp
      exact hK.out _ _ (NJ.next (vs := vs) 0 (by omega) (by omega) (fun h => by omega) (x := (.pointer (some ⟨w.heap.size, 0, none⟩))) (by rw [HLIT.out]; rfl) (by rw [HG.out]; exact JJ.out) HM.out (by rw [HG.out]; exact (fun _ _ h => h)) (by rw [HG.out]; exact rfl))
    · intro bf ac wv hfb haf hJ K' hK
      obtain ⟨vs, rfl, j1, j2, j3, hM, j4⟩ := hJ.open 1 (by omega) hfb
      replace hK := Lib.hid hK
      have HM := Lib.hid hM
      clear hM
      simp [Region.binds] at haf
      rw [HG.out] at j4
      have e0 : vs 0 = .pointer (some ⟨w.heap.size, 0, none⟩) := j4 0 (by omega) (by simp [haf])
      clear haf
      have JJ := Lib.hid (And.intro j1 (And.intro j2 (And.intro j3 j4)))
      clear j1 j2 j3 j4
      have K1 := KA_14.out.step HM.out
      have x0 := K1.c 0 rfl
      have xz := K1.2.2
      clear K1
      rw [HLIT.out]
      go_simp
      exact hK.out _ _ (NJ.next (vs := vs) 1 (by omega) (by omega) (fun h => by omega) (x := (.int .i64 id)) (by rw [HLIT.out]; simp only [upv, e0, Nat.reduceBEq, cond_true, cond_false]) (by rw [HG.out]; exact JJ.out) HM.out (by rw [HG.out]; exact (fun _ _ h => h)) (by rw [HG.out]; exact rfl))
    · intro bf ac wv hfb haf hJ K' hK
      obtain ⟨vs, rfl, j1, j2, j3, hM, j4⟩ := hJ.open 2 (by omega) hfb
      replace hK := Lib.hid hK
      have HM := Lib.hid hM
      clear hM
      rw [HG.out] at j4
      clear haf
      have JJ := Lib.hid (And.intro j1 (And.intro j2 (And.intro j3 j4)))
      clear j1 j2 j3 j4
      rw [HLIT.out]
      go_simp
      exact hK.out _ _ (NJ.next (vs := vs) 2 (by omega) (by omega) (fun h => by omega) (x := (.pointer (some ⟨w.heap.size, 1, none⟩))) (by rw [HLIT.out]; rfl) (by rw [HG.out]; exact JJ.out) HM.out (by rw [HG.out]; exact (fun _ _ h => h)) (by rw [HG.out]; exact rfl))
    · intro bf ac wv hfb haf hJ K' hK
      obtain ⟨vs, rfl, j1, j2, j3, hM, j4⟩ := hJ.open 3 (by omega) hfb
      replace hK := Lib.hid hK
      have HM := Lib.hid hM
      clear hM
      simp [Region.binds] at haf
      rw [HG.out] at j4
      have e2 : vs 2 = .pointer (some ⟨w.heap.size, 1, none⟩) := j4 2 (by omega) (by simp [haf])
      clear haf
      have JJ := Lib.hid (And.intro j1 (And.intro j2 (And.intro j3 j4)))
      clear j1 j2 j3 j4
      have K1 := KA_14.out.step HM.out
      have x1 := K1.c 1 rfl
      have xz := K1.2.2
      clear K1
      rw [HLIT.out]
      go_simp
      exact hK.out _ _ (NJ.next (vs := vs) 3 (by omega) (by omega) (fun h => by omega) (x := (.slice a l.length cap)) (by rw [HLIT.out]; simp only [upv, e2, Nat.reduceBEq, cond_true, cond_false]) (by rw [HG.out]; exact JJ.out) HM.out (by rw [HG.out]; exact (fun _ _ h => h)) (by rw [HG.out]; exact rfl))
    · intro bf ac wv hfb haf hJ K' hK
      obtain ⟨vs, rfl, j1, j2, j3, hM, j4⟩ := hJ.open 4 (by omega) hfb
      replace hK := Lib.hid hK
      have HM := Lib.hid hM
      clear hM
      simp [Region.binds] at haf
      rw [HG.out] at j4
      have e3 : vs 3 = .slice a l.length cap := j4 3 (by omega) (by simp [haf])
      clear haf
      have JJ := Lib.hid (And.intro j1 (And.intro j2 (And.intro j3 j4)))
      clear j1 j2 j3 j4
      rw [HLIT.out]
      go_simp
      go_at_call 38
      refine (clone_any _ l _ (HS.out.step HM.out) (by have := hn.out; omega)).mono ?_
      rintro e w4 ⟨x, rfl, hR, b4⟩
      exact hK.out _ _ (NJ.next (vs := vs) 4 (by omega) (by omega) (fun h => by omega) (x := x) (by rw [HLIT.out]; simp only [upv, e3, Nat.reduceBEq, cond_true, cond_false]) (by rw [HG.out]; exact JJ.out) (keep2 b4 HM.out) (by rw [HG.out]; exact (Gn.step b4)) (by rw [HG.out]; exact (fun _ => row_base hR HM.out.size)))
    · intro bf ac wv hfb haf hJ K' hK
      obtain ⟨vs, rfl, j1, j2, j3, hM, j4⟩ := hJ.open 5 (by omega) hfb
      replace hK := Lib.hid hK
      have HM := Lib.hid hM
      clear hM
      rw [HG.out] at j4
      clear haf
      have JJ := Lib.hid (And.intro j1 (And.intro j2 (And.intro j3 j4)))
      clear j1 j2 j3 j4
      have K1 := KV_15.out.step HM.out
      have x0 := K1.c 0 rfl
      have x1 := K1.c 1 rfl
      have xz := K1.2.2
      clear K1
      rw [HLIT.out]
      go_simp
      exact hK.out _ _ (NJ.next (vs := vs) 5 (by omega) (by omega) (fun h => by omega) (x := (.agg #[.int .i64 k, .int .i64 v])) (by rw [HLIT.out]; rfl) (by rw [HG.out]; exact JJ.out) HM.out (by rw [HG.out]; exact (fun _ _ h => h)) (by rw [HG.out]; exact rfl))
    · intro bf ac wv hfb haf hJ K' hK
      obtain ⟨vs, rfl, j1, j2, j3, hM, j4⟩ := hJ.open 6 (by omega) hfb
      replace hK := Lib.hid hK
      have HM := Lib.hid hM
      clear hM
      simp [Region.binds] at haf
      rw [HG.out] at j4
      have e5 : vs 5 = .agg #[.int .i64 k, .int .i64 v] := j4 5 (by omega) (by simp [haf])
      clear haf
      have JJ := Lib.hid (And.intro j1 (And.intro j2 (And.intro j3 j4)))
      clear j1 j2 j3 j4
      rw [HLIT.out]
      go_simp
      exact hK.out _ _ (NJ.next (vs := vs) 6 (by omega) (by omega) (fun h => by omega) (x := (.slice (some ⟨wv.heap.size, 0, none⟩) 1 1)) (by rw [HLIT.out]; simp only [upv, e5, Nat.reduceBEq, cond_true, cond_false]) (by rw [HG.out]; exact JJ.out) (keep2 (al _ _) HM.out) (by rw [HG.out]; exact (Gn.step (al _ _))) (by rw [HG.out]; exact (fun _ => ⟨_, rfl, Cs.new wv wv.heap.size #[.int .i64 k, .int .i64 v] 24 rfl⟩)))
    · intro bf ac wv hfb haf hJ K' hK
      obtain ⟨vs, rfl, j1, j2, j3, hM, j4⟩ := hJ.open 7 (by omega) hfb
      replace hK := Lib.hid hK
      have HM := Lib.hid hM
      clear hM
      simp [Region.binds] at haf
      rw [HG.out] at j4
      have e4 := j4 4 (by omega) (by simp [haf])
      have e6 := j4 6 (by omega) (by simp [haf])
      clear haf
      have JJ := Lib.hid (And.intro j1 (And.intro j2 (And.intro j3 j4)))
      clear j1 j2 j3 j4
      rw [hfb] at e4 e6
      obtain ⟨g, e6, hCg⟩ := e6 rfl
      have e4 := e4 rfl
      have nx : ∀ j u, ([.int .i64 k, .int .i64 v] : List Value)[j]? = some u → wv.cell? ((⟨g, 0, none⟩ : Addr).add j) = some u := fun j u hu => by
        rw [Go.WideShapes.add_plain, Nat.zero_add]
        have hj : j < 2 := by simpa using (List.getElem?_eq_some_iff.1 hu).1
        exact hCg.c j (by simpa using hu)
      rw [HLIT.out]
      refine step_append_lies _ rfl _ _ 22 rfl u2.heap.size 24 i0 _ 2 16 Try.underlying22 hi hz0 hz1 hz2 rfl (by decide) _ _ _ rfl e4 ⟨g, 0, none⟩ 1 1 [.int .i64 k, .int .i64 v] e6 rfl nx (by simp [Value.oneCell']) (by omega) (by have := hn.out; unfold maxLen; omega) (by have := hn.out; omega) HM.out.size _ rfl ?_
      intro g2 cap2 w' hown hgrow _ _
      exact hK.out _ _ (NJ.next7 (vs := vs) (x := .slice (some ⟨g2, 0, none⟩) (l.length + 1) cap2) (by rw [HLIT.out]; rfl) hfb (by rw [HG.out]; exact JJ.out) (HM.out.grown hgrow HM.out.size (fun k e => row_own e4 k e)) (by rw [HG.out]; exact Gn.long) (by rw [HG.out]; exact (show w'.ownsRow u2.heap.size 24 2 _ (l.length + 1) (ccs (l ++ [⟨k, v⟩])) by rw [ccs_app, ccs_one]; exact hown)))
    · intro bf ac wv hfb haf hJ K' hK
      obtain ⟨vs, rfl, j1, j2, j3, hM, j4⟩ := hJ.open 8 (by omega) hfb
      replace hK := Lib.hid hK
      have HM := Lib.hid hM
      clear hM
      rw [HG.out] at j4
      clear haf
      have JJ := Lib.hid (And.intro j1 (And.intro j2 (And.intro j3 j4)))
      clear j1 j2 j3 j4
      rw [HLIT.out]
      go_simp
      exact hK.out _ _ (NJ.next (vs := vs) 8 (by omega) (by omega) (fun h => by omega) (x := (.pointer (some ⟨w.heap.size, 2, none⟩))) (by rw [HLIT.out]; rfl) (by rw [HG.out]; exact JJ.out) HM.out (by rw [HG.out]; exact (fun _ _ h => h)) (by rw [HG.out]; exact rfl))
    · intro bf ac wv hfb haf hJ K' hK
      obtain ⟨vs, rfl, j1, j2, j3, hM, j4⟩ := hJ.open 9 (by omega) hfb
      replace hK := Lib.hid hK
      have HM := Lib.hid hM
      clear hM
      simp [Region.binds] at haf
      rw [HG.out] at j4
      have e8 : vs 8 = .pointer (some ⟨w.heap.size, 2, none⟩) := j4 8 (by omega) (by simp [haf])
      clear haf
      have JJ := Lib.hid (And.intro j1 (And.intro j2 (And.intro j3 j4)))
      clear j1 j2 j3 j4
      have K1 := KA_14.out.step HM.out
      have x2 := K1.c 2 rfl
      have xz := K1.2.2
      clear K1
      rw [HLIT.out]
      go_simp
      exact hK.out _ _ (NJ.next (vs := vs) 9 (by omega) (by omega) (fun h => by omega) (x := (.int .i64 tag)) (by rw [HLIT.out]; simp only [upv, e8, Nat.reduceBEq, cond_true, cond_false]) (by rw [HG.out]; exact JJ.out) HM.out (by rw [HG.out]; exact (fun _ _ h => h)) (by rw [HG.out]; exact rfl))
    · intro bf ac wv hfb haf hJ K' hK
      obtain ⟨vs, rfl, j1, j2, j3, hM, j4⟩ := hJ.open 10 (by omega) hfb
      replace hK := Lib.hid hK
      have HM := Lib.hid hM
      clear hM
      rw [HG.out] at j4
      clear haf
      have JJ := Lib.hid (And.intro j1 (And.intro j2 (And.intro j3 j4)))
      clear j1 j2 j3 j4
      have K1 := KV_15.out.step HM.out
      have x0 := K1.c 0 rfl
      have x1 := K1.c 1 rfl
      have xz := K1.2.2
      clear K1
      rw [HLIT.out]
      go_simp
      exact hK.out _ _ (NJ.next (vs := vs) 10 (by omega) (by omega) (fun h => by omega) (x := (.agg #[.int .i64 k, .int .i64 v])) (by rw [HLIT.out]; rfl) (by rw [HG.out]; exact JJ.out) HM.out (by rw [HG.out]; exact (fun _ _ h => h)) (by rw [HG.out]; exact rfl))
    · intro bf ac wv hfb haf hJ K' hK
      obtain ⟨vs, rfl, j1, j2, j3, hM, j4⟩ := hJ.open 11 (by omega) hfb
      replace hK := Lib.hid hK
      have HM := Lib.hid hM
      clear hM
      simp [Region.binds] at haf
      rw [HG.out] at j4
      have e9 : vs 9 = .int .i64 tag := j4 9 (by omega) (by simp [haf])
      have e10 : vs 10 = .agg #[.int .i64 k, .int .i64 v] := j4 10 (by omega) (by simp [haf])
      clear haf
      have JJ := Lib.hid (And.intro j1 (And.intro j2 (And.intro j3 j4)))
      clear j1 j2 j3 j4
      rw [HLIT.out]
      go_simp
      go_at_call 39
      refine (nextTag_any tag ⟨k, v⟩ _).mono ?_
      rintro e w4 ⟨rfl, b4⟩
      exact hK.out _ _ (NJ.next (vs := vs) 11 (by omega) (by omega) (fun h => by omega) (x := (.int .i64 (tgN tag ⟨k, v⟩))) (by rw [HLIT.out]; simp only [upv, e9, e10, Nat.reduceBEq, cond_true, cond_false]) (by rw [HG.out]; exact JJ.out) (keep2 b4 HM.out) (by rw [HG.out]; exact (Gn.step b4)) (by rw [HG.out]; exact rfl))
    · intro bf ac wv hfb haf hJ K' hK
      obtain ⟨vs, rfl, j1, j2, j3, hM, j4⟩ := hJ.open 12 (by omega) hfb
      replace hK := Lib.hid hK
      have HM := Lib.hid hM
      clear hM
      simp [Region.binds] at haf
      rw [HG.out] at j4
      have e1 : vs 1 = .int .i64 id := j4 1 (by omega) (by simp [haf])
      have e7 := j4 7 (by omega) (by simp [haf])
      have e11 : vs 11 = .int .i64 (tgN tag ⟨k, v⟩) := j4 11 (by omega) (by simp [haf])
      have h7 : bf 7 = true := by simp [haf]
      clear haf
      have JJ := Lib.hid (And.intro j1 (And.intro j2 (And.intro j3 j4)))
      clear j1 j2 j3 j4
      have R7 := Lib.hid e7
      obtain ⟨a7, c7, hx7⟩ := row_slice e7
      rw [hx7] at R7
      clear e7
      rw [HLIT.out]
      go_simp
      exact hK.out _ _ (NJ.next (vs := vs) 12 (by omega) (by omega) (fun _ => h7) (x := (.agg #[.int .i64 id, .slice a7 (l.length + 1) c7, .int .i64 (tgN tag ⟨k, v⟩)])) (by rw [HLIT.out]; simp only [upv, e1, e11, hx7, Nat.reduceBEq, cond_true, cond_false]) (by rw [HG.out]; exact JJ.out) HM.out (by rw [HG.out]; exact (fun _ _ h => h)) (by rw [HG.out]; exact ⟨_, rfl, R7.out⟩))
    · intro bf ac wv hfb haf hJ K' hK
      obtain ⟨vs, rfl, j1, hM, j4⟩ := hJ.open13 hfb
      replace hK := Lib.hid hK
      have HM := Lib.hid hM
      simp [Region.binds] at haf
      clear hM
      have HA := Lib.hid (show ∀ i, i < 13 → bf i = true from fun i hi => by
        obtain rfl | rfl | rfl | rfl | rfl | rfl | rfl | rfl | rfl | rfl | rfl | rfl | rfl : i = 0 ∨ i = 1 ∨ i = 2 ∨ i = 3 ∨ i = 4 ∨ i = 5 ∨ i = 6 ∨ i = 7 ∨ i = 8 ∨ i = 9 ∨ i = 10 ∨ i = 11 ∨ i = 12 := by omega
        all_goals simp [haf])
      clear haf hfb
      rw [HG.out] at j4
      obtain ⟨u, e12, r12⟩ := j4 12 (by omega) (HA.out 12 (by omega))
      obtain ⟨a7, c7, rfl⟩ := row_slice r12
      replace j4 := Lib.hid j4
      replace j1 := Lib.hid j1
      have R7 := Lib.hid r12
      clear r12
      have KR1 := Lib.hid (KR_16.out.step HM.out)
      have x0 := KR1.out.c 0 rfl
      have y0 := KR1.out.f 0 (by simp)
      have x1 := KR1.out.c 1 rfl
      have y1 := KR1.out.f 1 (by simp)
      have x2 := KR1.out.c 2 rfl
      have y2 := KR1.out.f 2 (by simp)
      have xz := KR1.out.2.2
      rw [HLIT.out]
      go_simp
      exact hK.out _ _ (NJ.fin (vs := vs) (by rw [HLIT.out]; simp only [e12]) j1.out HA.out ⟨.slice a7 (l.length + 1) c7, Cs.set (Cs.set (Cs.set KR1.out 0 (by simp) _ rfl) 1 (by simp) _ rfl) 2 (by simp) _ rfl, cvs_of_row (by simp) (by have := hn.out; unfold maxLen; simp; omega) (row_other (row_other (row_other R7.out HZ.out) HZ.out) HZ.out), (by repeat (first | with_reducible exact keep2 HM.out HB17.out | with_reducible exact Below.refl _ _ | ((with_reducible refine Below.setCell ?_ ?_ _); rotate_left; focus (first | (simp; done) | (simp; omega) | omega)) | ((with_reducible refine Below.alloc ?_ ?_ _); rotate_left; focus (first | (simp; done) | (simp; omega) | omega)) | with_reducible refine Below.trans ?_ (below_drewN' _ _ _) | with_reducible refine Below.trans ?_ (below_drew _ _)))⟩)
    · intro bf ac wv hfb haf hJ K' hK
      simp [Region.binds] at haf
      obtain ⟨vs, rfl, -, hA, hF⟩ := hJ.open14 (by simp [haf])
      replace hK := Lib.hid hK
      replace hF := Lib.hid hF
      have h13 : bf 13 = true := by simp [haf]
      clear haf
      rw [HLIT.out]
      go_simp
      exact hK.out _ _ (NJ.last (vs := vs) (by rw [HLIT.out]; rfl) h13 hA hF.out)
  · intro bf ac wv hall hJ
    obtain ⟨vs, rfl, e14, -, u, hR, hC, hB⟩ := hJ.open14 (hall 13 (by decide))
    replace e14 := e14 (hall 14 (by decide))
    have hC2 := hC
    obtain ⟨a7, cap7, hs7, -⟩ := hC2
    subst hs7
    have HC9 := Lib.hid hC
    have HB9 := Lib.hid hB
    clear hC hB hall
    have x0 := hR.c 0 rfl
    have y0 := hR.f 0 (by simp)
    have x1 := hR.c 1 rfl
    have y1 := hR.f 1 (by simp)
    have x2 := hR.c 2 rfl
    have y2 := hR.f 2 (by simp)
    have xz := hR.2.2
    clear hR
    rw [HLIT.out]
    dsimp only
    rw [e14]
    go_wp2
    exact bodyPost_ret (v := .tuple #[.agg #[.int .i64 id, _, .int .i64 (tgN tag ⟨k, v⟩)], .int .i64 0]) (by simp [results, Try.results14, go_sem, x0, x1, x2]) rfl ⟨_, rfl, HC9.out, HB9.out⟩
end Go.Proofs.Ytoaleijfpocdjaa
