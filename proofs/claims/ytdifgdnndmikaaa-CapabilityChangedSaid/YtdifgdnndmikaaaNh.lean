/- Capabilities: law CapabilityChanged: a copy of a capability. -/
import Derived.Test.YtdifgdnndmikaaaNg
namespace Go.Proofs.Ytdifgdnndmikaaa
open Go.RowKit

theorem box_type {w : World} {g g2 : Nat} {cs cs2 : Array Value} {t t2 : TypeId} (h : BoxN w g cs t) (h2 : BoxN w g2 cs2 t2) (hne : t ≠ t2) : g ≠ g2 := by
  intro e
  rw [← e] at h2
  have h3 : w.heap[g]? = some (.cells cs t (0, 0)) := h
  have h4 : w.heap[g]? = some (.cells cs2 t2 (0, 0)) := h2
  rw [h3] at h4
  cases h4
  exact hne rfl
theorem row_set_other {w : World} {base e s n g j : Nat} {v x : Value} {xs : List Value} (h : w.ownsRow base e s v n xs) (hne : v.ownBlock ≠ some g) : (w.setCell ⟨g, j, none⟩ x).ownsRow base e s v n xs := by
  refine ⟨h.1, ?_⟩
  rcases h.2 with h0 | ⟨g2, cap, cur, rfl, h2, h3, h4⟩
  · exact .inl h0
  · exact .inr ⟨g2, cap, cur, rfl, h2, (Below.heap_setCell w ⟨g, j, none⟩ x g2 (fun e => hne (by rw [show g2 = g from e]; rfl))).trans h3, h4⟩
/-- A copied capability in a block. -/
def PC (id T : Int) (l : List Cv) (n0 g : Nat) (w : World) : Prop := ∃ a c, BoxN w g #[.int .i64 id, .slice a l.length c, .int .i64 T] 24 ∧ w.ownsRow n0 26 2 (.slice a l.length c) l.length (ccs l)
theorem PC.step {id T : Int} {l : List Cv} {n0 g : Nat} {w w1 : World} (h : PC id T l n0 g w) (hb : Below w.heap.size w w1) : PC id T l n0 g w1 := by
  obtain ⟨a, c, h1, h2⟩ := h
  exact ⟨a, c, h1.step hb, row_step h2 hb⟩
/-- What comes up where a capability is copied. -/
def Gc (val : List Value) (id T : Int) (l : List Cv) (n0 : Nat) (c1 d : Bool) (i : Nat) (v : Value) (w : World) : Prop :=
  (i = 2 → c1 = false → ∃ g, v = .slice (some ⟨g, 0, none⟩) 0 0 ∧ n0 ≤ g ∧ BoxN w g #[] 26) ∧
  (i = 5 → w.ownsRow n0 26 2 v l.length (ccs l)) ∧
  (i = 8 → ∃ u, v = .agg #[.int .i64 id, u, .int .i64 T] ∧ w.ownsRow n0 26 2 u l.length (ccs l)) ∧
  (i = 9 → ∃ g, v = .pointer (some ⟨g, 0, none⟩) ∧ n0 ≤ g ∧ (d = false → BoxN w g #[.int .i64 0, .slice none 0 0, .int .i64 0] 24) ∧ (d = true → PC id T l n0 g w)) ∧
  ((i ≠ 2 ∧ i ≠ 5 ∧ i ≠ 8 ∧ i ≠ 9 ∧ i ≠ 10) → v = val.getD i undef)
theorem Gc.step {val : List Value} {id T : Int} {l : List Cv} {n0 : Nat} {c1 d : Bool} {w w1 : World} (hb : Below w.heap.size w w1) : ∀ i v, Gc val id T l n0 c1 d i v w → Gc val id T l n0 c1 d i v w1 := fun _ _ h =>
  ⟨fun e k => (h.1 e k).imp fun _ q => ⟨q.1, q.2.1, q.2.2.step hb⟩, fun e => row_step (h.2.1 e) hb, fun e => (h.2.2.1 e).imp fun _ q => ⟨q.1, row_step q.2 hb⟩,
    fun e => (h.2.2.2.1 e).imp fun _ q => ⟨q.1, q.2.1, fun k => (q.2.2.1 k).step hb, fun k => (q.2.2.2 k).step hb⟩, h.2.2.2.2⟩
/-- The region's invariant. -/
def NC (lit : (Nat → Value) → Act) (G : Bool → Bool → Nat → Value → World → Prop) (B : World → Prop) (bf : Nat → Bool) (ac : Act) (wv : World) : Prop :=
  ∃ vs, ac = lit vs ∧ (bf 10 = true → bf 8 = true ∧ bf 9 = true) ∧ (bf 8 = true → bf 5 = true) ∧ B wv ∧ ∀ i, bf i = true → G (bf 5) (bf 10) i (vs i) wv
theorem NC.next {lit : (Nat → Value) → Act} {G : Bool → Bool → Nat → Value → World → Prop} {B : World → Prop} {bf : Nat → Bool} {wv : World} {vs : Nat → Value} (i : Nat) (hi : i ≠ 10) (h8 : i = 8 → bf 5 = true) {c1 d : Bool} (e1 : up bf i 5 = c1) (e2 : bf 10 = d) {x : Value} {w' : World} {ac' : Act} (hac : ac' = lit (upv vs i x))
    (k : (bf 10 = true → bf 8 = true ∧ bf 9 = true) ∧ (bf 8 = true → bf 5 = true) ∧ ∀ i, bf i = true → G (bf 5) (bf 10) i (vs i) wv) (hb : B w') (hs : ∀ k, k ≠ i → bf k = true → G (bf 5) (bf 10) k (vs k) wv → G c1 d k (vs k) w') (hx : G c1 d i x w') : NC lit G B (up bf i) ac' w' := by
  obtain ⟨k1, k2, k3⟩ := k
  have e3 : up bf i 10 = d := (up_ne _ _ _ (Ne.symm hi)).trans e2
  have hk : ∀ j, bf j = true → up bf i j = true := fun j hj => by unfold up; rw [hj]; simp
  refine ⟨upv vs i x, hac, fun h => ?_, fun h => ?_, hb, fun j hu => ?_⟩
  · rw [up_ne _ _ _ (Ne.symm hi)] at h
    exact ⟨hk _ (k1 h).1, hk _ (k1 h).2⟩
  · by_cases e : 8 = i
    · exact hk _ (h8 e.symm)
    · rw [up_ne _ _ _ e] at h; exact hk _ (k2 h)
  · rw [e1, e3]
    by_cases e : j = i
    · subst e; rw [upv_same]; exact hx
    · rw [up_ne _ _ _ e] at hu; rw [upv_ne _ _ _ _ e]; exact hs _ e hu (k3 j hu)
theorem NC.put {lit : (Nat → Value) → Act} {G : Bool → Bool → Nat → Value → World → Prop} {B : World → Prop} {bf : Nat → Bool} {vs : Nat → Value} {w' : World} {ac' : Act} (hac : ac' = lit vs) (h8 : bf 8 = true) (h9 : bf 9 = true) (h5 : bf 5 = true) (hb : B w') (hs : ∀ k, k ≠ 10 → bf k = true → G true true k (vs k) w') (hx : ∀ v, G true true 10 v w') : NC lit G B (up bf 10) ac' w' := by
  have hk : ∀ j, bf j = true → up bf 10 j = true := fun j hj => by unfold up; rw [hj]; simp
  refine ⟨vs, hac, fun _ => ⟨hk _ h8, hk _ h9⟩, fun _ => hk _ h5, hb, fun j hu => ?_⟩
  rw [up_same, hk _ h5]
  by_cases e : j = 10
  · subst e; exact hx _
  · rw [up_ne _ _ _ e] at hu; exact hs j e hu
/-- The value of one caveat of a row is stored. -/
theorem cvs_set {w : World} {base g c q : Nat} {l : List Cv} (hr : w.ownsRow base 26 2 (.slice (some ⟨g, 0, none⟩) l.length c) l.length (ccs l)) (hq : q < l.length) (hl : l.length ≤ maxLen) (vl : Int) : CvsAt (w.setCell ⟨g, q * 2 + 1, none⟩ (.int .i64 vl)) (.slice (some ⟨g, 0, none⟩) l.length c) (l.set q ⟨(l.getD q zC).k, vl⟩) := by
  obtain ⟨a, cap, hv, h1, hm, hc⟩ := cvs_of_row rfl hl hr
  cases hv
  obtain ⟨b, off, ha, hx⟩ := hc (by intro h; rw [h] at hq; simp at hq)
  cases ha
  refine ⟨_, _, by rw [List.length_set], by rw [List.length_set]; exact h1, by rw [List.length_set]; exact hm, fun _ => ⟨_, 0, rfl, fun i x hi => ?_⟩⟩
  have hne : ∀ j, j ≠ q * 2 + 1 → (w.setCell ⟨g, q * 2 + 1, none⟩ (.int .i64 vl)).cell? ⟨g, j, none⟩ = w.cell? ⟨g, j, none⟩ := fun j hj => World.cell?_setCell_other _ _ _ _ (by intro h2; injection h2 with _ h3; exact hj h3.symm)
  by_cases e : i = q
  · subst e
    rw [List.getElem?_set_self hq] at hi
    cases hi
    obtain ⟨y0, y1⟩ := hx i _ (cv_get hq)
    refine ⟨?_, ?_⟩
    · rw [hne _ (by omega)]; exact y0
    · rw [Nat.zero_add] at y1 ⊢
      rw [World.cell?_setCell_same _ _ _ y1]
  · rw [List.getElem?_set_ne (Ne.symm e)] at hi
    obtain ⟨y0, y1⟩ := hx i x hi
    exact ⟨by rw [hne _ (by omega)]; exact y0, by rw [hne _ (by omega)]; exact y1⟩
/-- A changed capability that is genuine shows two lists of the same digest. -/
theorem changed_cld {key id T id2 T2 : Int} {l m : List Cv} (h1 : gnB key id T l = true) (h2 : gnB key id2 T2 m = true) (hp : T2 = T ∨ id2 = id ∧ m = l) (hn : ¬ (id = id2 ∧ T = T2 ∧ l = m)) : Cld (lsL key id l (l.length + 1) ++ lsL key id2 m (m.length + 1)) := by
  have hT : T2 = T := by
    rcases hp with h | ⟨rfl, rfl⟩
    · exact h
    · unfold gnB at h1 h2
      simp only [Bool.and_eq_true, decide_eq_true_iff] at h1 h2
      rw [← h1.2.2, ← h2.2.2]
  subst hT
  exact forged h1 h2 (fun h => hn ⟨h.2.1, rfl, h.2.2⟩)
set_option maxRecDepth 100000 in
set_option maxHeartbeats 4000000 in
theorem changed_len (key id : Int) (sl : Value) (l : List Cv) (wh vl ot : Int) (w : World) (h : CvsAt w sl l) (_ : 0 ≤ wh ∧ wh ≤ 255) (hl : 12 < l.length) : Calls Try.prog 6 #[.int .i64 key, .int .i64 id, sl, .int .u8 wh, .int .i64 vl, .int .i64 ot] w fun e w' => e = .returned (.bool true) ∧ Below w.heap.size w w' := by
  have H := Lib.hid h
  obtain ⟨a, cap, rfl, -, hm, -⟩ := h
  unfold maxLen at hm
  have hg : decide ((l.length : Int) > 12) = true := by simp; omega
  have hg2 : decide ((12 : Int) < l.length) = true := by simp; omega
  have HB0 := Lib.hid (Below.refl w.heap.size w)
  go_enter Try.func6, Try.ntmps6
  go_wp2_with fail
  refine (head_any _).mono ?_
  rintro e u1 ⟨rfl, b1⟩
  have HB1 := Lib.hid (keep2 b1 HB0.out)
  clear HB0 b1
  go_wp2
  go_ret
  exact ⟨rfl, HB1.out⟩
set_option maxRecDepth 100000 in
set_option maxHeartbeats 4000000 in
theorem changed_md (key id : Int) (sl : Value) (l : List Cv) (wh vl ot : Int) (w : World) (h : CvsAt w sl l) (_ : 0 ≤ wh ∧ wh ≤ 255) (hl : l.length ≤ 12) (hM : mdB key id l = false) : Calls Try.prog 6 #[.int .i64 key, .int .i64 id, sl, .int .u8 wh, .int .i64 vl, .int .i64 ot] w fun e w' => e = .returned (.bool true) ∧ Below w.heap.size w w' := by
  have H := Lib.hid h
  obtain ⟨a, cap, rfl, -, hm, -⟩ := h
  unfold maxLen at hm
  have hg : decide ((l.length : Int) > 12) = false := by simp; omega
  have hg2 : decide ((12 : Int) < l.length) = false := by simp; omega
  have HB0 := Lib.hid (Below.refl w.heap.size w)
  go_enter Try.func6, Try.ntmps6
  go_wp2_with fail
  refine (head_any _).mono ?_
  rintro e u1 ⟨rfl, b1⟩
  have HB1 := Lib.hid (keep2 b1 HB0.out)
  clear HB0 b1
  have HM := Lib.hid hM
  clear hM
  go_wp2_with fail
  refine (minted_any key id _ l _ (H.out.step HB1.out)).mono ?_
  rintro e u20 ⟨vr, rfl, hmd, b20⟩
  rw [HM.out]
  obtain ⟨i1, t1, sl1, m, rfl, hs, hq⟩ := hmd
  have HB2 := Lib.hid (keep2 b20 HB1.out)
  clear HB1 b20
  obtain ⟨sa, sc, rfl, -⟩ := hs
  clear hq
  have HB3 : Hid (Below w.heap.size w (u20.alloc (.cells #[.int .i64 i1, .slice sa m.length sc, .int .i64 t1] 24))) := HB2.out.alloc HB2.out.size _
  clear HB2
  go_wp2
  go_ret
  exact ⟨rfl, HB3.out⟩
set_option maxRecDepth 100000 in
set_option maxHeartbeats 4000000 in
theorem changed_main (key id : Int) (sl : Value) (l : List Cv) (wh vl ot : Int) (w : World) (h : CvsAt w sl l) (b1 : 0 ≤ wh ∧ wh ≤ 255) (hl : l.length ≤ 12) (hM : mdB key id l = true) : Calls Try.prog 6 #[.int .i64 key, .int .i64 id, sl, .int .u8 wh, .int .i64 vl, .int .i64 ot] w fun e w' => e = .returned (.bool true) ∧ Below w.heap.size w w' := by
  have H := Lib.hid h
  obtain ⟨a, cap, rfl, -, hm, -⟩ := h
  unfold maxLen at hm
  have hg : decide ((l.length : Int) > 12) = false := by simp; omega
  have hg2 : decide ((12 : Int) < l.length) = false := by simp; omega
  have HB0 := Lib.hid (Below.refl w.heap.size w)
  go_enter Try.func6, Try.ntmps6
  go_wp2_with fail
  refine (head_any _).mono ?_
  rintro e u1 ⟨rfl, b1⟩
  have HB1 := Lib.hid (keep2 b1 HB0.out)
  clear HB0 b1
  have HM := Lib.hid hM
  have HG1 := Lib.hid (md_parts hM)
  clear hM
  go_wp2_with fail
  refine (minted_any key id _ l _ (H.out.step HB1.out)).mono ?_
  rintro e u20 ⟨vr, rfl, hmd, b20⟩
  rw [HM.out]
  obtain ⟨i1, t1, sl1, m, rfl, hs, hq⟩ := hmd
  have HB2 := Lib.hid (keep2 b20 HB1.out)
  clear HB1 b20
  obtain ⟨q1, q2, q3⟩ := hq HM.out
  clear hq
  have q1 := q1.symm
  have q2 := q2.symm
  have q3 := q3.symm
  subst q1 q2 q3
  obtain ⟨T, hT⟩ : ∃ T, tk (tg0 key id) l l.length = T := ⟨_, rfl⟩
  rw [hT] at HG1 ⊢
  clear hT
  have HS := Lib.hid hs
  obtain ⟨sa, sc, rfl, -⟩ := hs
  have KC_3 := Lib.hid (Cs.new u20 (u20.heap.size) #[.int .i64 id, .slice sa l.length sc, .int .i64 T] 24 (by simp))
  have HB4 : Hid (Below w.heap.size w (u20.alloc (.cells #[.int .i64 id, .slice sa l.length sc, .int .i64 T] 24))) := HB2.out.alloc HB2.out.size _
  clear HB2
  have xC0 : (u20.alloc (.cells #[.int .i64 id, .slice sa l.length sc, .int .i64 T] 24)).cell? ⟨u20.heap.size, 0, none⟩ = some (.int .i64 id) := KC_3.out.c 0 rfl
  have xC1 : (u20.alloc (.cells #[.int .i64 id, .slice sa l.length sc, .int .i64 T] 24)).cell? ⟨u20.heap.size, 1, none⟩ = some (.slice sa l.length sc) := KC_3.out.c 1 rfl
  have xC2 : (u20.alloc (.cells #[.int .i64 id, .slice sa l.length sc, .int .i64 T] 24)).cell? ⟨u20.heap.size, 2, none⟩ = some (.int .i64 T) := KC_3.out.c 2 rfl
  have zC : u20.heap.size < (u20.alloc (.cells #[.int .i64 id, .slice sa l.length sc, .int .i64 T] 24)).heap.size := KC_3.out.2.2
  have z2C : u20.heap.size < (u20.alloc (.cells #[.int .i64 id, .slice sa l.length sc, .int .i64 T] 24)).heap.size + 1 := by omega
  have HBC := Lib.hid (BoxN.new u20 #[.int .i64 id, .slice sa l.length sc, .int .i64 T] 24)
  replace HS := Lib.hid (HS.out.step (al u20 (.cells #[.int .i64 id, .slice sa l.length sc, .int .i64 T] 24)))
  have hnn : ((l.length : Int) != (l.length : Int)) = false := by simp
  go_upto_region 9 with fail
  clear xC0 xC1 xC2 zC z2C
  obtain ⟨W9, hW9⟩ : ∃ W, (u20.alloc (.cells #[.int .i64 id, .slice sa l.length sc, .int .i64 T] 24)) = W := ⟨_, rfl⟩
  rw [hW9] at KC_3 HB4 HS HBC ⊢
  clear hW9
  obtain ⟨lit, hlit⟩ : ∃ lit : (Nat → Value) → Act, lit = fun vs => { tmps := List.toArray (Value.int IntKind.i64 key :: Value.int IntKind.i64 id :: Value.slice a l.length cap :: Value.int IntKind.u8 wh :: Value.int IntKind.i64 vl :: Value.int IntKind.i64 ot :: undef :: undef :: undef :: undef :: undef :: undef :: Value.bool false :: Value.bool true :: Value.pointer (some { block := u20.heap.size, off := 0 }) :: Value.bool true :: vs 9 :: undef :: undef :: undef :: undef :: undef :: undef :: undef :: undef :: Value.bool true :: Value.slice a l.length cap :: Value.int IntKind.i64 (l.length : Int) :: Value.bool false :: undef :: Value.tuple #[Value.agg #[Value.int IntKind.i64 id, Value.slice sa l.length sc, Value.int IntKind.i64 T], Value.bool true] :: Value.int IntKind.i64 key :: Value.int IntKind.i64 id :: Value.slice a l.length cap :: Value.tuple #[Value.agg #[Value.int IntKind.i64 id, Value.slice sa l.length sc, Value.int IntKind.i64 T], Value.bool true] :: Value.agg #[Value.int IntKind.i64 id, Value.slice sa l.length sc, Value.int IntKind.i64 T] :: Value.bool true :: Value.bool true :: Value.bool false :: undef :: Value.pointer (some { block := u20.heap.size, off := 1 }) :: Value.slice sa l.length sc :: Value.int IntKind.i64 (l.length : Int) :: Value.slice a l.length cap :: Value.int IntKind.i64 (l.length : Int) :: Value.bool false :: vs 0 :: vs 1 :: vs 2 :: vs 3 :: vs 4 :: vs 5 :: vs 6 :: vs 7 :: vs 8 :: undef :: undef :: undef :: undef :: undef :: undef :: undef :: undef :: undef :: undef :: undef :: undef :: undef :: undef :: undef :: undef :: undef :: undef :: undef :: undef :: undef :: undef :: undef :: undef :: undef :: undef :: undef :: undef :: undef :: undef :: undef :: undef :: undef :: undef :: undef :: undef :: undef :: undef :: undef :: undef :: undef :: undef :: undef :: undef :: undef :: undef :: undef :: undef :: undef :: undef :: undef :: undef :: undef :: undef :: undef :: undef :: undef :: undef :: undef :: undef :: undef :: undef :: undef :: undef :: undef :: undef :: undef :: undef :: undef :: undef :: undef :: undef :: undef :: undef :: undef :: undef :: undef :: undef :: undef :: undef :: undef :: undef :: undef :: undef :: undef :: undef :: undef :: undef :: undef :: undef :: undef :: undef :: undef :: undef :: undef :: []), defers := [] } := ⟨_, rfl⟩
  have HLIT := Lib.hid hlit
  clear hlit
  obtain ⟨val, hval⟩ : ∃ val : List Value, val = [.pointer (some ⟨u20.heap.size, 0, none⟩), .int .i64 id, undef, .pointer (some ⟨u20.heap.size, 1, none⟩), .slice sa l.length sc, undef, .pointer (some ⟨u20.heap.size, 2, none⟩), .int .i64 T, undef, undef, undef] := ⟨_, rfl⟩
  have E0 := Lib.hid (show val.getD 0 undef = .pointer (some ⟨u20.heap.size, 0, none⟩) by rw [hval]; rfl)
  have E1 := Lib.hid (show val.getD 1 undef = .int .i64 id by rw [hval]; rfl)
  have E3 := Lib.hid (show val.getD 3 undef = .pointer (some ⟨u20.heap.size, 1, none⟩) by rw [hval]; rfl)
  have E4 := Lib.hid (show val.getD 4 undef = .slice sa l.length sc by rw [hval]; rfl)
  have E6 := Lib.hid (show val.getD 6 undef = .pointer (some ⟨u20.heap.size, 2, none⟩) by rw [hval]; rfl)
  have E7 := Lib.hid (show val.getD 7 undef = .int .i64 T by rw [hval]; rfl)
  clear hval
  obtain ⟨G, hG0⟩ : ∃ G, G = Gc val id T l W9.heap.size := ⟨_, rfl⟩
  have HG := Lib.hid hG0
  clear hG0
  refine region_inv (NC lit G (Below W9.heap.size W9)) (by kernel_rfl) (by decide +kernel) ?_ ?_ ?_
  · exact ⟨fun i => ([undef, undef, undef, undef, undef, undef, undef, undef, undef, undef, undef] : List Value).getD i undef, (by rw [HLIT.out]; rfl), fun h => (by cases h), fun h => (by cases h), below_drew _ _, fun i h => (by cases h)⟩
  · refine ⟨?_, ?_, ?_, ?_, ?_, ?_, ?_, ?_, ?_, ?_, ?_, trivial⟩
    · intro bf ac wv hfb haf hJ K' hK
      obtain ⟨vs, rfl, j10, j8, hM, j4⟩ := hJ
      replace hK := Lib.hid hK
      have HM := Lib.hid hM
      clear hM
      rw [HG.out] at j4
      clear haf
      replace j4 := Lib.hid (And.intro j10 (And.intro j8 j4))
      clear j10 j8
      rw [HLIT.out]
      go_simp
      exact hK.out _ _ (NC.next (vs := vs) 0 (by omega) (fun h => by omega) (up_ne _ _ _ (by omega)) rfl (x := .pointer (some ⟨u20.heap.size, 0, none⟩)) (by rw [HLIT.out]; rfl) (by rw [HG.out]; exact j4.out) HM.out (by rw [HG.out]; exact fun _ _ _ h => h) (by rw [HG.out]; exact ⟨fun h => absurd h (by decide), fun h => absurd h (by decide), fun h => absurd h (by decide), fun h => absurd h (by decide), fun _ => E0.out.symm⟩))
    · intro bf ac wv hfb haf hJ K' hK
      obtain ⟨vs, rfl, j10, j8, hM, j4⟩ := hJ
      replace hK := Lib.hid hK
      have HM := Lib.hid hM
      clear hM
      simp [Region.binds] at haf
      rw [HG.out] at j4
      have e0 : vs 0 = _ := ((j4 0 (by simp [haf])).2.2.2.2 ⟨by decide, by decide, by decide, by decide, by decide⟩).trans E0.out
      clear haf
      replace j4 := Lib.hid (And.intro j10 (And.intro j8 j4))
      clear j10 j8
      have K1 := KC_3.out.step HM.out
      have x0 := K1.c 0 rfl
      have xz := K1.2.2
      clear K1
      rw [HLIT.out]
      go_simp
      exact hK.out _ _ (NC.next (vs := vs) 1 (by omega) (fun h => by omega) (up_ne _ _ _ (by omega)) rfl (x := .int .i64 id) (by rw [HLIT.out]; simp only [upv, e0, Nat.reduceBEq, cond_true, cond_false]) (by rw [HG.out]; exact j4.out) HM.out (by rw [HG.out]; exact fun _ _ _ h => h) (by rw [HG.out]; exact ⟨fun h => absurd h (by decide), fun h => absurd h (by decide), fun h => absurd h (by decide), fun h => absurd h (by decide), fun _ => E1.out.symm⟩))
    · intro bf ac wv hfb haf hJ K' hK
      obtain ⟨vs, rfl, j10, j8, hM, j4⟩ := hJ
      replace hK := Lib.hid hK
      have HM := Lib.hid hM
      clear hM
      rw [HG.out] at j4
      clear haf
      replace j4 := Lib.hid (And.intro j10 (And.intro j8 j4))
      clear j10 j8
      rw [HLIT.out]
      go_simp
      exact hK.out _ _ (NC.next (vs := vs) 2 (by omega) (fun h => by omega) (up_ne _ _ _ (by omega)) rfl (x := .slice (some ⟨wv.heap.size, 0, none⟩) 0 0) (by rw [HLIT.out]; rfl) (by rw [HG.out]; exact j4.out) (keep2 (al _ _) HM.out) (by rw [HG.out]; exact fun k _ _ h => Gc.step (al _ _) k _ h) (by rw [HG.out]; exact ⟨fun _ _ => ⟨wv.heap.size, rfl, HM.out.size, BoxN.new wv #[] 26⟩, fun h => absurd h (by decide), fun h => absurd h (by decide), fun h => absurd h (by decide), fun h => absurd rfl h.1⟩))
    · intro bf ac wv hfb haf hJ K' hK
      obtain ⟨vs, rfl, j10, j8, hM, j4⟩ := hJ
      replace hK := Lib.hid hK
      have HM := Lib.hid hM
      clear hM
      rw [HG.out] at j4
      clear haf
      replace j4 := Lib.hid (And.intro j10 (And.intro j8 j4))
      clear j10 j8
      rw [HLIT.out]
      go_simp
      exact hK.out _ _ (NC.next (vs := vs) 3 (by omega) (fun h => by omega) (up_ne _ _ _ (by omega)) rfl (x := .pointer (some ⟨u20.heap.size, 1, none⟩)) (by rw [HLIT.out]; rfl) (by rw [HG.out]; exact j4.out) HM.out (by rw [HG.out]; exact fun _ _ _ h => h) (by rw [HG.out]; exact ⟨fun h => absurd h (by decide), fun h => absurd h (by decide), fun h => absurd h (by decide), fun h => absurd h (by decide), fun _ => E3.out.symm⟩))
    · intro bf ac wv hfb haf hJ K' hK
      obtain ⟨vs, rfl, j10, j8, hM, j4⟩ := hJ
      replace hK := Lib.hid hK
      have HM := Lib.hid hM
      clear hM
      simp [Region.binds] at haf
      rw [HG.out] at j4
      have e3 : vs 3 = _ := ((j4 3 (by simp [haf])).2.2.2.2 ⟨by decide, by decide, by decide, by decide, by decide⟩).trans E3.out
      clear haf
      replace j4 := Lib.hid (And.intro j10 (And.intro j8 j4))
      clear j10 j8
      have K1 := KC_3.out.step HM.out
      have x1 := K1.c 1 rfl
      have xz := K1.2.2
      clear K1
      rw [HLIT.out]
      go_simp
      exact hK.out _ _ (NC.next (vs := vs) 4 (by omega) (fun h => by omega) (up_ne _ _ _ (by omega)) rfl (x := .slice sa l.length sc) (by rw [HLIT.out]; simp only [upv, e3, Nat.reduceBEq, cond_true, cond_false]) (by rw [HG.out]; exact j4.out) HM.out (by rw [HG.out]; exact fun _ _ _ h => h) (by rw [HG.out]; exact ⟨fun h => absurd h (by decide), fun h => absurd h (by decide), fun h => absurd h (by decide), fun h => absurd h (by decide), fun _ => E4.out.symm⟩))
    · intro bf ac wv hfb haf hJ K' hK
      obtain ⟨vs, rfl, j10, j8, hM, j4⟩ := hJ
      replace hK := Lib.hid hK
      have HM := Lib.hid hM
      clear hM
      simp [Region.binds] at haf
      rw [HG.out] at j4
      rw [hfb] at j4
      have h8f : bf 8 = false := Bool.eq_false_iff.2 fun h => absurd ((j8 h).symm.trans hfb) (by simp)
      have h10f : bf 10 = false := Bool.eq_false_iff.2 fun h => absurd ((j10 h).1.symm.trans h8f) (by simp)
      rw [h10f] at j4
      obtain ⟨g2, e2, hg2, hb2⟩ := (j4 2 (by simp [haf])).1 rfl rfl
      have e4 : vs 4 = _ := ((j4 4 (by simp [haf])).2.2.2.2 ⟨by decide, by decide, by decide, by decide, by decide⟩).trans E4.out
      obtain ⟨v5, w5, hr5, ho5, hg5⟩ := run_app wv W9.heap.size 0 (.slice (some ⟨g2, 0, none⟩) 0 0) (.slice sa l.length sc) [] l 22 (row_empty hb2 hg2) (HS.out.step HM.out) (by omega) HM.out.size
      rw [Nat.zero_add, List.nil_append] at ho5
      rw [HLIT.out]
      refine step_app rfl _ _ 22 rfl _ _ v5 e2 e4 hr5 ?_
      exact hK.out _ _ (NC.next (vs := vs) 5 (by omega) (fun h => by omega) (up_same _ _) h10f (x := v5) (by rw [HLIT.out]; rfl) (by rw [HG.out, hfb, h10f]; exact ⟨fun h => (by cases h), fun h => (by rw [h8f] at h; cases h), j4⟩) (HM.out.grown hg5 HM.out.size (fun k e => by cases e; exact hg2)) (by
        rw [HG.out, hfb, h10f]
        exact fun k hk hbk h => ⟨fun _ d => (by cases d), fun e => absurd e hk, fun e => absurd ((e ▸ hbk : bf 8 = true).symm.trans h8f) (by simp), fun e => (h.2.2.2.1 e).imp fun g q => ⟨q.1, q.2.1, fun _ => box_grown (q.2.2.1 rfl) hg5 (fun e => box_type (q.2.2.1 rfl) hb2 (by decide) (by cases e; rfl)), fun d => (by cases d)⟩, h.2.2.2.2⟩) (by rw [HG.out]; exact ⟨fun h => absurd h (by decide), fun _ => ho5, fun h => absurd h (by decide), fun h => absurd h (by decide), fun h => absurd rfl h.2.1⟩))
    · intro bf ac wv hfb haf hJ K' hK
      obtain ⟨vs, rfl, j10, j8, hM, j4⟩ := hJ
      replace hK := Lib.hid hK
      have HM := Lib.hid hM
      clear hM
      rw [HG.out] at j4
      clear haf
      replace j4 := Lib.hid (And.intro j10 (And.intro j8 j4))
      clear j10 j8
      rw [HLIT.out]
      go_simp
      exact hK.out _ _ (NC.next (vs := vs) 6 (by omega) (fun h => by omega) (up_ne _ _ _ (by omega)) rfl (x := .pointer (some ⟨u20.heap.size, 2, none⟩)) (by rw [HLIT.out]; rfl) (by rw [HG.out]; exact j4.out) HM.out (by rw [HG.out]; exact fun _ _ _ h => h) (by rw [HG.out]; exact ⟨fun h => absurd h (by decide), fun h => absurd h (by decide), fun h => absurd h (by decide), fun h => absurd h (by decide), fun _ => E6.out.symm⟩))
    · intro bf ac wv hfb haf hJ K' hK
      obtain ⟨vs, rfl, j10, j8, hM, j4⟩ := hJ
      replace hK := Lib.hid hK
      have HM := Lib.hid hM
      clear hM
      simp [Region.binds] at haf
      rw [HG.out] at j4
      have e6 : vs 6 = _ := ((j4 6 (by simp [haf])).2.2.2.2 ⟨by decide, by decide, by decide, by decide, by decide⟩).trans E6.out
      clear haf
      replace j4 := Lib.hid (And.intro j10 (And.intro j8 j4))
      clear j10 j8
      have K1 := KC_3.out.step HM.out
      have x2 := K1.c 2 rfl
      have xz := K1.2.2
      clear K1
      rw [HLIT.out]
      go_simp
      exact hK.out _ _ (NC.next (vs := vs) 7 (by omega) (fun h => by omega) (up_ne _ _ _ (by omega)) rfl (x := .int .i64 T) (by rw [HLIT.out]; simp only [upv, e6, Nat.reduceBEq, cond_true, cond_false]) (by rw [HG.out]; exact j4.out) HM.out (by rw [HG.out]; exact fun _ _ _ h => h) (by rw [HG.out]; exact ⟨fun h => absurd h (by decide), fun h => absurd h (by decide), fun h => absurd h (by decide), fun h => absurd h (by decide), fun _ => E7.out.symm⟩))
    · intro bf ac wv hfb haf hJ K' hK
      obtain ⟨vs, rfl, j10, j8, hM, j4⟩ := hJ
      replace hK := Lib.hid hK
      have HM := Lib.hid hM
      clear hM
      simp [Region.binds] at haf
      rw [HG.out] at j4
      have e1 : vs 1 = _ := ((j4 1 (by simp [haf])).2.2.2.2 ⟨by decide, by decide, by decide, by decide, by decide⟩).trans E1.out
      have e5 := (j4 5 (by simp [haf])).2.1 rfl
      have e7 : vs 7 = _ := ((j4 7 (by simp [haf])).2.2.2.2 ⟨by decide, by decide, by decide, by decide, by decide⟩).trans E7.out
      have h5t : bf 5 = true := by simp [haf]
      clear haf
      replace j4 := Lib.hid (And.intro j10 (And.intro j8 j4))
      clear j10 j8
      have R7 := Lib.hid e5
      obtain ⟨a7, c7, hx7⟩ := row_slice e5
      rw [hx7] at R7
      clear e5
      rw [HLIT.out]
      go_simp
      exact hK.out _ _ (NC.next (vs := vs) 8 (by omega) (fun _ => h5t) (up_ne _ _ _ (by omega)) rfl (x := .agg #[.int .i64 id, .slice a7 l.length c7, .int .i64 T]) (by rw [HLIT.out]; simp only [upv, e1, e7, hx7, Nat.reduceBEq, cond_true, cond_false]) (by rw [HG.out]; exact j4.out) HM.out (by rw [HG.out]; exact fun _ _ _ h => h) (by rw [HG.out]; exact ⟨fun h => absurd h (by decide), fun h => absurd h (by decide), fun _ => ⟨_, rfl, R7.out⟩, fun h => absurd h (by decide), fun h => absurd rfl h.2.2.1⟩))
    · intro bf ac wv hfb haf hJ K' hK
      obtain ⟨vs, rfl, j10, j8, hM, j4⟩ := hJ
      replace hK := Lib.hid hK
      have HM := Lib.hid hM
      clear hM
      rw [HG.out] at j4
      clear haf
      replace j4 := Lib.hid (And.intro j10 (And.intro j8 j4))
      have hd : bf 10 = false := Bool.eq_false_iff.2 fun h => absurd ((j10 h).2.symm.trans hfb) (by simp)
      clear j10 j8
      rw [HLIT.out]
      go_simp
      exact hK.out _ _ (NC.next (vs := vs) 9 (by omega) (fun h => by omega) (up_ne _ _ _ (by omega)) rfl (x := .pointer (some ⟨wv.heap.size, 0, none⟩)) (by rw [HLIT.out]; rfl) (by rw [HG.out]; exact j4.out) (keep2 (al _ _) HM.out) (by rw [HG.out]; exact fun k _ _ h => Gc.step (al _ _) k _ h) (by rw [HG.out]; exact ⟨fun h => absurd h (by decide), fun h => absurd h (by decide), fun h => absurd h (by decide), fun _ => ⟨wv.heap.size, rfl, HM.out.size, fun _ => z3box wv, fun e => absurd (e.symm.trans hd) (by simp)⟩, fun h => absurd rfl h.2.2.2.1⟩))
    · intro bf ac wv hfb haf hJ K' hK
      obtain ⟨vs, rfl, j10, j8, hM, j4⟩ := hJ
      replace hK := Lib.hid hK
      have HM := Lib.hid hM
      clear hM
      simp [Region.binds] at haf
      rw [HG.out, hfb] at j4
      have h8t : bf 8 = true := by simp [haf]
      have h9t : bf 9 = true := by simp [haf]
      have h5t := j8 h8t
      rw [h5t] at j4
      clear haf j10 j8
      obtain ⟨u, e8, hu⟩ := (j4 8 h8t).2.2.1 rfl
      obtain ⟨g, e9, hg, hz, -⟩ := (j4 9 h9t).2.2.2.1 rfl
      replace hz := hz rfl
      obtain ⟨a7, c7, rfl⟩ := row_slice hu
      have HU := Lib.hid hu
      have HZ := Lib.hid hz
      replace hg := Lib.hid hg
      replace j4 := Lib.hid j4
      clear hu
      have x0 := hz.cs.c 0 rfl
      have y0 := hz.cs.f 0 (by simp)
      have x1 := hz.cs.c 1 rfl
      have y1 := hz.cs.f 1 (by simp)
      have x2 := hz.cs.c 2 rfl
      have y2 := hz.cs.f 2 (by simp)
      have xz := hz.lt
      clear hz
      rw [HLIT.out]
      go_simp
      have hro : ∀ {v : Value} {xs : List Value} {n : Nat} {x y z : Value}, wv.ownsRow W9.heap.size 26 2 v n xs → (((wv.setCell ⟨g, 0, none⟩ x).setCell ⟨g, 1, none⟩ y).setCell ⟨g, 2, none⟩ z).ownsRow W9.heap.size 26 2 v n xs := fun hr => row_set_other (row_set_other (row_set_other hr (row_type hr HZ.out (by decide))) (row_type hr HZ.out (by decide))) (row_type hr HZ.out (by decide))
      exact hK.out _ _ (NC.put (vs := vs) (by rw [HLIT.out]; simp only [e8, e9]) h8t h9t h5t (((HM.out.setCell hg.out _).setCell hg.out _).setCell hg.out _) (by
        rw [HG.out]
        exact fun k _ hbk => ⟨fun _ d => (by cases d), fun e => hro ((j4.out k hbk).2.1 e), fun e => ((j4.out k hbk).2.2.1 e).imp fun u q => ⟨q.1, hro q.2⟩, fun e => ⟨g, by subst e; exact e9, hg.out, fun d => (by cases d), fun _ => ⟨a7, c7, ((HZ.out.set 0 _ rfl).set 1 _ rfl).set 2 _ rfl, hro HU.out⟩⟩, (j4.out k hbk).2.2.2.2⟩) (fun _ => by
        rw [HG.out]
        exact ⟨fun h => absurd h (by decide), fun h => absurd h (by decide), fun h => absurd h (by decide), fun h => absurd h (by decide), fun h => absurd rfl h.2.2.2.2⟩))
  · intro bf ac wv hall hJ
    obtain ⟨vs, rfl, -, -, hM, j4⟩ := hJ
    rw [HG.out, hall 10 (by decide)] at j4
    obtain ⟨g, e9, hg, -, hp⟩ := (j4 9 (hall 9 (by decide))).2.2.2.1 rfl
    have HPC := Lib.hid (hp rfl)
    have HM9 := Lib.hid hM
    replace hg := Lib.hid hg
    clear hM hp j4 hall
    rw [HLIT.out]
    dsimp only
    rw [e9]
    clear e9 HLIT HG E0 E1 E3 E4 E6 E7
    obtain ⟨us, hus⟩ : ∃ us, us = vs := ⟨_, rfl⟩
    rw [← hus]
    clear hus
    have HB9 := Lib.hid (keep2 HM9.out HB4.out)
    have HBC9 := Lib.hid (HBC.out.step HM9.out)
    obtain ⟨da, dc, hpb, hpr⟩ := HPC.out
    have HDB := Lib.hid hpb
    have HDR := Lib.hid hpr
    clear hpb hpr HPC
    obtain ⟨kk, hkk, hkn⟩ : ∃ kk : Nat, wh.tmod ((l.length : Int) + 2) = (kk : Int) ∧ kk < l.length + 2 := by
      have h1 := Int.tmod_nonneg (b := (l.length : Int) + 2) (a := wh) b1.1
      have h2 := Int.tmod_lt_of_pos wh (show (0 : Int) < (l.length : Int) + 2 by omega)
      exact ⟨(wh.tmod ((l.length : Int) + 2)).toNat, by omega, by omega⟩
    go_upto_if 64 with fail
    go_cut [17] from 65 to 78 (fun p wc => ∃ (id2 T2 : Int) (m : List Cv) (ua : Option Addr) (uc : Nat), p = .int .i64 (kk : Int) ∧ Hid (BoxN wc g #[.int .i64 id2, .slice ua m.length uc, .int .i64 T2] 24) ∧ Hid (CvsAt wc (.slice ua m.length uc) m) ∧ m.length ≤ 12 ∧ Hid (Below W9.heap.size W9 wc) ∧ (T2 = T ∨ id2 = id ∧ m = l))
    case first =>
      have HR9 := Lib.hid (cvs_of_row rfl (by unfold maxLen; omega) HDR.out)
      by_cases c1 : kk < l.length
      · have c2 : decide ((kk : Int) < (l.length : Int)) = true := by simp; omega
        have c3 : (kk : Int) < (l.length : Int) := by omega
        obtain ⟨gu, gc, hda, -, hgu⟩ := HDR.out.form (by omega)
        cases hda
        have hne : gu ≠ g := fun h => row_type HDR.out HDB.out (by decide) (by rw [h]; rfl)
        obtain ⟨cq, cd⟩ : ∃ v, wv.cell? ⟨gu, kk * 2 + 1, none⟩ = some v := by
          obtain ⟨a9, c9, hv9, -, -, hx9⟩ := HR9.out
          cases hv9
          obtain ⟨b9, o9, ha9, hy9⟩ := hx9 (by intro h; rw [h] at c1; simp at c1)
          cases ha9
          exact ⟨_, by have := (hy9 kk _ (cv_get c1)).2; rwa [Nat.zero_add] at this⟩
        have cf : wv.frozen? ⟨gu, kk * 2 + 1, none⟩ = false := by
          rcases HDR.out.2 with ⟨h9, -⟩ | ⟨g9, cap9, cur9, h9, -, h8, -⟩
          · cases h9
          · cases h9
            simp [World.frozen?, h8]
        have dx0 := HDB.out.cs.c 0 rfl
        have dx1 := HDB.out.cs.c 1 rfl
        have dx2 := HDB.out.cs.c 2 rfl
        have dy0 := HDB.out.cs.f 0 (by simp)
        have dy2 := HDB.out.cs.f 2 (by simp)
        have dz := HDB.out.lt
        go_wp2_with fail
        go_meet
        case rel =>
          refine ⟨id, T, l.set kk ⟨(l.getD kk zC).k, vl⟩, some ⟨gu, 0, none⟩, dc, rfl, ?_, ?_, by rw [List.length_set]; exact hl, HM9.out.setCell (by have := row_own HDR.out gu rfl; exact this) _, .inl rfl⟩
          · rw [List.length_set]; exact Lib.hid (HDB.out.other (Ne.symm hne) _ _)
          · rw [List.length_set]; exact Lib.hid (cvs_set HDR.out c1 (by unfold maxLen; omega) vl)
      · have c2 : decide ((kk : Int) < (l.length : Int)) = false := by simp; omega
        by_cases c3 : kk = l.length
        · have c4 : ((kk : Int) == (l.length : Int)) = true := by simp; omega
          have c5 : decide ((kk : Int) = (l.length : Int)) = true := by simp; omega
          replace c3 := Lib.hid c3
          have dx0 := HDB.out.cs.c 0 rfl
          have dx1 := HDB.out.cs.c 1 rfl
          have dx2 := HDB.out.cs.c 2 rfl
          have dy0 := HDB.out.cs.f 0 (by simp)
          have dy2 := HDB.out.cs.f 2 (by simp)
          have dz := HDB.out.lt
          go_wp2_with fail
          go_meet
          case rel =>
            exact ⟨vl, T, l, da, dc, rfl, Lib.hid (HDB.out.set 0 _ rfl), Lib.hid (cvs_box HR9.out HDB.out fun b9 j9 h9 => by simp only [World.cell?, Below.heap_setCell wv ⟨g, 0, none⟩ _ b9 h9]), hl, Lib.hid (HM9.out.setCell hg.out _), .inl rfl⟩
        · have c4 : ((kk : Int) == (l.length : Int)) = false := by simp; omega
          have c5 : decide ((kk : Int) = (l.length : Int)) = false := by simp; omega
          have dx0 := HDB.out.cs.c 0 rfl
          have dx1 := HDB.out.cs.c 1 rfl
          have dx2 := HDB.out.cs.c 2 rfl
          have dy0 := HDB.out.cs.f 0 (by simp)
          have dy2 := HDB.out.cs.f 2 (by simp)
          have dz := HDB.out.lt
          go_wp2_with fail
          go_meet
          case rel =>
            exact ⟨id, vl, l, da, dc, rfl, Lib.hid (HDB.out.set 2 _ rfl), Lib.hid (cvs_box HR9.out HDB.out fun b9 j9 h9 => by simp only [World.cell?, Below.heap_setCell wv ⟨g, 2, none⟩ _ b9 h9]), hl, Lib.hid (HM9.out.setCell hg.out _), .inr ⟨rfl, rfl⟩⟩
    case rest =>
      obtain ⟨id2, T2, m, ua, uc, rfl, HDB2, HDC, hm12, HBW, HP⟩ := hcut
      have HSc := Lib.hid (HS.out.step HBW.out)
      have HBCc := Lib.hid (BoxN.cs (HBC.out.step HBW.out))
      have HDc := Lib.hid HDB2.out.cs
      have HBc := Lib.hid (keep2 HBW.out HB4.out)
      clear HS HBC HDB HDR HDB2 HBW HB9 HBC9 HM9
      replace HP := Lib.hid HP
      obtain ⟨gd, hgd⟩ : ∃ b, gnB key id2 T2 m = b := ⟨_, rfl⟩
      obtain ⟨go, hgo⟩ : ∃ b, gnB ot id T l = b := ⟨_, rfl⟩
      replace hgd := Lib.hid hgd
      replace hgo := Lib.hid hgo
      have xC0 : wc.cell? ⟨u20.heap.size, 0, none⟩ = some (.int .i64 id) := HBCc.out.c 0 rfl
      have xC1 : wc.cell? ⟨u20.heap.size, 1, none⟩ = some (.slice sa l.length sc) := HBCc.out.c 1 rfl
      have xC2 : wc.cell? ⟨u20.heap.size, 2, none⟩ = some (.int .i64 T) := HBCc.out.c 2 rfl
      have zC : u20.heap.size < wc.heap.size := HBCc.out.2.2
      have z2C : u20.heap.size < wc.heap.size + 1 := by omega
      go_wp2_with fail
      refine (rtags_any key id T _ l _ HSc.out (by omega)).mono ?_
      rintro e v1 ⟨tu1, tz1, rfl, htg, bb1⟩
      obtain ⟨zs1, -, hr, hx⟩ := htg
      obtain ⟨gz1, zc1, rfl, -, -⟩ := hr.form (by omega)
      replace HSc := Lib.hid (HSc.out.step bb1)
      replace HDC := Lib.hid (HDC.out.step bb1)
      have HR1 := Lib.hid hr
      have HX1 := Lib.hid hx
      clear hr hx
      clear xC0 xC1 xC2 zC z2C
      have KC_1201 := Lib.hid (HBCc.out.step bb1)
      clear HBCc
      have KD_1202 := Lib.hid (HDc.out.step bb1)
      clear HDc
      have HB1203 := Lib.hid (keep2 bb1 HBc.out)
      clear HBc bb1
      have xD0 : v1.cell? ⟨g, 0, none⟩ = some (.int .i64 id2) := KD_1202.out.c 0 rfl
      have xD1 : v1.cell? ⟨g, 1, none⟩ = some (.slice ua m.length uc) := KD_1202.out.c 1 rfl
      have xD2 : v1.cell? ⟨g, 2, none⟩ = some (.int .i64 T2) := KD_1202.out.c 2 rfl
      have zD : g < v1.heap.size := KD_1202.out.2.2
      have z2D : g < v1.heap.size + 1 := by omega
      go_wp2_with fail
      refine (rtags_any key id2 T2 _ m _ HDC.out (by omega)).mono ?_
      rintro e v2 ⟨tu2, tz2, rfl, htg, bb2⟩
      obtain ⟨zs2, -, hr, hx⟩ := htg
      obtain ⟨gz2, zc2, rfl, -, -⟩ := hr.form (by omega)
      replace HSc := Lib.hid (HSc.out.step bb2)
      replace HDC := Lib.hid (HDC.out.step bb2)
      replace HR1 := Lib.hid (row_step HR1.out bb2)
      replace HX1 := Lib.hid (HX1.out.step bb2)
      have HR2 := Lib.hid hr
      have HX2 := Lib.hid hx
      clear hr hx
      clear xD0 xD1 xD2 zD z2D
      have KC_1204 := Lib.hid (KC_1201.out.step bb2)
      clear KC_1201
      have KD_1205 := Lib.hid (KD_1202.out.step bb2)
      clear KD_1202
      have HB1206 := Lib.hid (keep2 bb2 HB1203.out)
      clear HB1203 bb2
      have xC0 : v2.cell? ⟨u20.heap.size, 0, none⟩ = some (.int .i64 id) := KC_1204.out.c 0 rfl
      have xC1 : v2.cell? ⟨u20.heap.size, 1, none⟩ = some (.slice sa l.length sc) := KC_1204.out.c 1 rfl
      have xC2 : v2.cell? ⟨u20.heap.size, 2, none⟩ = some (.int .i64 T) := KC_1204.out.c 2 rfl
      have zC : u20.heap.size < v2.heap.size := KC_1204.out.2.2
      have z2C : u20.heap.size < v2.heap.size + 1 := by omega
      go_wp2_with fail
      refine (rtags_any ot id T _ l _ HSc.out (by omega)).mono ?_
      rintro e v3 ⟨tu3, tz3, rfl, htg, bb3⟩
      obtain ⟨zs3, -, hr, hx⟩ := htg
      obtain ⟨gz3, zc3, rfl, -, -⟩ := hr.form (by omega)
      replace HSc := Lib.hid (HSc.out.step bb3)
      replace HDC := Lib.hid (HDC.out.step bb3)
      replace HR1 := Lib.hid (row_step HR1.out bb3)
      replace HX1 := Lib.hid (HX1.out.step bb3)
      replace HR2 := Lib.hid (row_step HR2.out bb3)
      replace HX2 := Lib.hid (HX2.out.step bb3)
      have HR3 := Lib.hid hr
      have HX3 := Lib.hid hx
      clear hr hx
      clear xC0 xC1 xC2 zC z2C
      have KC_1207 := Lib.hid (KC_1204.out.step bb3)
      clear KC_1204
      have KD_1208 := Lib.hid (KD_1205.out.step bb3)
      clear KD_1205
      have HB1209 := Lib.hid (keep2 bb3 HB1206.out)
      clear HB1206 bb3
      have xC0 : v3.cell? ⟨u20.heap.size, 0, none⟩ = some (.int .i64 id) := KC_1207.out.c 0 rfl
      have xC1 : v3.cell? ⟨u20.heap.size, 1, none⟩ = some (.slice sa l.length sc) := KC_1207.out.c 1 rfl
      have xC2 : v3.cell? ⟨u20.heap.size, 2, none⟩ = some (.int .i64 T) := KC_1207.out.c 2 rfl
      have zC : u20.heap.size < v3.heap.size := KC_1207.out.2.2
      have z2C : u20.heap.size < v3.heap.size + 1 := by omega
      have xD0 : v3.cell? ⟨g, 0, none⟩ = some (.int .i64 id2) := KD_1208.out.c 0 rfl
      have xD1 : v3.cell? ⟨g, 1, none⟩ = some (.slice ua m.length uc) := KD_1208.out.c 1 rfl
      have xD2 : v3.cell? ⟨g, 2, none⟩ = some (.int .i64 T2) := KD_1208.out.c 2 rfl
      have zD : g < v3.heap.size := KD_1208.out.2.2
      have z2D : g < v3.heap.size + 1 := by omega
      go_wp2_with fail
      refine (same_any id T id2 T2 _ _ l m _ HSc.out HDC.out).mono ?_
      rintro e v4 ⟨sb, rfl, hsb, bb4⟩
      replace hsb := Lib.hid hsb
      replace HSc := Lib.hid (HSc.out.step bb4)
      replace HDC := Lib.hid (HDC.out.step bb4)
      replace HR1 := Lib.hid (row_step HR1.out bb4)
      replace HX1 := Lib.hid (HX1.out.step bb4)
      replace HR2 := Lib.hid (row_step HR2.out bb4)
      replace HX2 := Lib.hid (HX2.out.step bb4)
      replace HR3 := Lib.hid (row_step HR3.out bb4)
      replace HX3 := Lib.hid (HX3.out.step bb4)
      clear xC0 xC1 xC2 zC z2C xD0 xD1 xD2 zD z2D
      have KC_1210 := Lib.hid (KC_1207.out.step bb4)
      clear KC_1207
      have KD_1211 := Lib.hid (KD_1208.out.step bb4)
      clear KD_1208
      have HB1212 := Lib.hid (keep2 bb4 HB1209.out)
      clear HB1209 bb4
      have xD0 : v4.cell? ⟨g, 0, none⟩ = some (.int .i64 id2) := KD_1211.out.c 0 rfl
      have xD1 : v4.cell? ⟨g, 1, none⟩ = some (.slice ua m.length uc) := KD_1211.out.c 1 rfl
      have xD2 : v4.cell? ⟨g, 2, none⟩ = some (.int .i64 T2) := KD_1211.out.c 2 rfl
      have zD : g < v4.heap.size := KD_1211.out.2.2
      have z2D : g < v4.heap.size + 1 := by omega
      go_wp2_with fail
      refine (genuine_any key id2 T2 _ m _ HDC.out).mono ?_
      rintro e v5 ⟨rfl, bb5⟩
      rw [hgd.out]
      replace HSc := Lib.hid (HSc.out.step bb5)
      replace HDC := Lib.hid (HDC.out.step bb5)
      replace HR1 := Lib.hid (row_step HR1.out bb5)
      replace HX1 := Lib.hid (HX1.out.step bb5)
      replace HR2 := Lib.hid (row_step HR2.out bb5)
      replace HX2 := Lib.hid (HX2.out.step bb5)
      replace HR3 := Lib.hid (row_step HR3.out bb5)
      replace HX3 := Lib.hid (HX3.out.step bb5)
      clear xD0 xD1 xD2 zD z2D
      have KC_1213 := Lib.hid (KC_1210.out.step bb5)
      clear KC_1210
      have KD_1214 := Lib.hid (KD_1211.out.step bb5)
      clear KD_1211
      have HB1215 := Lib.hid (keep2 bb5 HB1212.out)
      clear HB1212 bb5
      cases sb
      case true =>
        have hgt : gd = true := by
          obtain ⟨h1, h2, h3⟩ := hsb.out.1 rfl
          rw [← hgd.out, ← h1, ← h2, ← h3]
          exact HG1.out.2.2
        subst hgt
        clear hsb
        have xC0 : v5.cell? ⟨u20.heap.size, 0, none⟩ = some (.int .i64 id) := KC_1213.out.c 0 rfl
        have xC1 : v5.cell? ⟨u20.heap.size, 1, none⟩ = some (.slice sa l.length sc) := KC_1213.out.c 1 rfl
        have xC2 : v5.cell? ⟨u20.heap.size, 2, none⟩ = some (.int .i64 T) := KC_1213.out.c 2 rfl
        have zC : u20.heap.size < v5.heap.size := KC_1213.out.2.2
        have z2C : u20.heap.size < v5.heap.size + 1 := by omega
        go_wp2_with fail
        refine (genuine_any key id T _ l _ HSc.out).mono ?_
        rintro e v7 ⟨rfl, bb7⟩
        rw [HG1.out.2.2]
        replace HSc := Lib.hid (HSc.out.step bb7)
        replace HDC := Lib.hid (HDC.out.step bb7)
        replace HR1 := Lib.hid (row_step HR1.out bb7)
        replace HX1 := Lib.hid (HX1.out.step bb7)
        replace HR2 := Lib.hid (row_step HR2.out bb7)
        replace HX2 := Lib.hid (HX2.out.step bb7)
        replace HR3 := Lib.hid (row_step HR3.out bb7)
        replace HX3 := Lib.hid (HX3.out.step bb7)
        clear xC0 xC1 xC2 zC z2C
        have KC_1216 := Lib.hid (KC_1213.out.step bb7)
        clear KC_1213
        have KD_1217 := Lib.hid (KD_1214.out.step bb7)
        clear KD_1214
        have HB1218 := Lib.hid (keep2 bb7 HB1215.out)
        clear HB1215 bb7
        have xD0 : v7.cell? ⟨g, 0, none⟩ = some (.int .i64 id2) := KD_1217.out.c 0 rfl
        have xD1 : v7.cell? ⟨g, 1, none⟩ = some (.slice ua m.length uc) := KD_1217.out.c 1 rfl
        have xD2 : v7.cell? ⟨g, 2, none⟩ = some (.int .i64 T2) := KD_1217.out.c 2 rfl
        have zD : g < v7.heap.size := KD_1217.out.2.2
        have z2D : g < v7.heap.size + 1 := by omega
        go_wp2_with fail
        refine (genuine_any key id2 T2 _ m _ HDC.out).mono ?_
        rintro e v8 ⟨rfl, bb8⟩
        rw [hgd.out]
        replace HSc := Lib.hid (HSc.out.step bb8)
        replace HDC := Lib.hid (HDC.out.step bb8)
        replace HR1 := Lib.hid (row_step HR1.out bb8)
        replace HX1 := Lib.hid (HX1.out.step bb8)
        replace HR2 := Lib.hid (row_step HR2.out bb8)
        replace HX2 := Lib.hid (HX2.out.step bb8)
        replace HR3 := Lib.hid (row_step HR3.out bb8)
        replace HX3 := Lib.hid (HX3.out.step bb8)
        clear xD0 xD1 xD2 zD z2D
        have KC_1219 := Lib.hid (KC_1216.out.step bb8)
        clear KC_1216
        have KD_1220 := Lib.hid (KD_1217.out.step bb8)
        clear KD_1217
        have HB1221 := Lib.hid (keep2 bb8 HB1218.out)
        clear HB1218 bb8
        by_cases k9 : ot = key
        · subst k9
          go_wp2
          go_ret
          exact ⟨rfl, HB1221.out⟩
        · have k91 : (ot == key) = false := by simpa using k9
          have k92 : decide (ot = key) = false := by simpa using k9
          have xC0 : v8.cell? ⟨u20.heap.size, 0, none⟩ = some (.int .i64 id) := KC_1219.out.c 0 rfl
          have xC1 : v8.cell? ⟨u20.heap.size, 1, none⟩ = some (.slice sa l.length sc) := KC_1219.out.c 1 rfl
          have xC2 : v8.cell? ⟨u20.heap.size, 2, none⟩ = some (.int .i64 T) := KC_1219.out.c 2 rfl
          have zC : u20.heap.size < v8.heap.size := KC_1219.out.2.2
          have z2C : u20.heap.size < v8.heap.size + 1 := by omega
          go_wp2_with fail
          refine (genuine_any ot id T _ l _ HSc.out).mono ?_
          rintro e v9 ⟨rfl, bb9⟩
          rw [hgo.out]
          replace HSc := Lib.hid (HSc.out.step bb9)
          replace HDC := Lib.hid (HDC.out.step bb9)
          replace HR1 := Lib.hid (row_step HR1.out bb9)
          replace HX1 := Lib.hid (HX1.out.step bb9)
          replace HR2 := Lib.hid (row_step HR2.out bb9)
          replace HX2 := Lib.hid (HX2.out.step bb9)
          replace HR3 := Lib.hid (row_step HR3.out bb9)
          replace HX3 := Lib.hid (HX3.out.step bb9)
          clear xC0 xC1 xC2 zC z2C
          have KC_1222 := Lib.hid (KC_1219.out.step bb9)
          clear KC_1219
          have KD_1223 := Lib.hid (KD_1220.out.step bb9)
          clear KD_1220
          have HB1224 := Lib.hid (keep2 bb9 HB1221.out)
          clear HB1221 bb9
          cases go
          case false =>
            go_wp2
            go_ret
            exact ⟨rfl, HB1224.out⟩
          case true =>
            obtain ⟨p5, y5, p6, y6, z5, z6, z7, z8, z9⟩ := two_lists HR1.out HX1.out HR3.out HX3.out (by omega) (by omega) (by omega)
            have hLn : l.length + 1 + (l.length + 1) = (lsL key id l (l.length + 1) ++ lsL ot id l (l.length + 1)).length := by rw [List.length_append, lsL_len, lsL_len]
            have hL26 : (lsL key id l (l.length + 1) ++ lsL ot id l (l.length + 1)).length ≤ 100 := by rw [← hLn]; omega
            rw [hLn] at z7
            have Q7 := Lib.hid z7
            have Q8 := Lib.hid z8
            have Q9 := Lib.hid z9
            clear z7 z8 z9 hLn
            go_wp2_with (first | (at_builtin; refine wpList_app_g _ _ 45 rfl (by simp [Region.wanted, yielded]) _ _ p5 rfl rfl z5 ?_) | (at_builtin; refine wpList_app_g _ _ 45 rfl (by simp [Region.wanted, yielded]) _ _ p6 rfl rfl z6 ?_))
            refine (collide_yes _ _ _ _ _ _ Q7.out Q8.out hL26 (forged HG1.out.2.2 hgo.out (fun h => k9 h.1.symm))).mono ?_
            rintro e v10 ⟨rfl, bq10⟩
            have bb10 := keep2 bq10 Q9.out
            clear bq10 Q7 Q8 Q9 z5 z6 hL26
            replace HSc := Lib.hid (HSc.out.step bb10)
            replace HDC := Lib.hid (HDC.out.step bb10)
            replace HR1 := Lib.hid (row_step HR1.out bb10)
            replace HX1 := Lib.hid (HX1.out.step bb10)
            replace HR2 := Lib.hid (row_step HR2.out bb10)
            replace HX2 := Lib.hid (HX2.out.step bb10)
            replace HR3 := Lib.hid (row_step HR3.out bb10)
            replace HX3 := Lib.hid (HX3.out.step bb10)
            have KC_1225 := Lib.hid (KC_1222.out.step bb10)
            clear KC_1222
            have KD_1226 := Lib.hid (KD_1223.out.step bb10)
            clear KD_1223
            have HB1227 := Lib.hid (keep2 bb10 HB1224.out)
            clear HB1224 bb10
            go_wp2
            go_ret
            exact ⟨rfl, HB1227.out⟩
      case false =>
        cases gd
        case false =>
          clear hsb
          have xC0 : v5.cell? ⟨u20.heap.size, 0, none⟩ = some (.int .i64 id) := KC_1213.out.c 0 rfl
          have xC1 : v5.cell? ⟨u20.heap.size, 1, none⟩ = some (.slice sa l.length sc) := KC_1213.out.c 1 rfl
          have xC2 : v5.cell? ⟨u20.heap.size, 2, none⟩ = some (.int .i64 T) := KC_1213.out.c 2 rfl
          have zC : u20.heap.size < v5.heap.size := KC_1213.out.2.2
          have z2C : u20.heap.size < v5.heap.size + 1 := by omega
          go_wp2_with fail
          refine (genuine_any key id T _ l _ HSc.out).mono ?_
          rintro e v7 ⟨rfl, bb7⟩
          rw [HG1.out.2.2]
          replace HSc := Lib.hid (HSc.out.step bb7)
          replace HDC := Lib.hid (HDC.out.step bb7)
          replace HR1 := Lib.hid (row_step HR1.out bb7)
          replace HX1 := Lib.hid (HX1.out.step bb7)
          replace HR2 := Lib.hid (row_step HR2.out bb7)
          replace HX2 := Lib.hid (HX2.out.step bb7)
          replace HR3 := Lib.hid (row_step HR3.out bb7)
          replace HX3 := Lib.hid (HX3.out.step bb7)
          clear xC0 xC1 xC2 zC z2C
          have KC_1228 := Lib.hid (KC_1213.out.step bb7)
          clear KC_1213
          have KD_1229 := Lib.hid (KD_1214.out.step bb7)
          clear KD_1214
          have HB1230 := Lib.hid (keep2 bb7 HB1215.out)
          clear HB1215 bb7
          by_cases k9 : ot = key
          · subst k9
            go_wp2
            go_ret
            exact ⟨rfl, HB1230.out⟩
          · have k91 : (ot == key) = false := by simpa using k9
            have k92 : decide (ot = key) = false := by simpa using k9
            have xC0 : v7.cell? ⟨u20.heap.size, 0, none⟩ = some (.int .i64 id) := KC_1228.out.c 0 rfl
            have xC1 : v7.cell? ⟨u20.heap.size, 1, none⟩ = some (.slice sa l.length sc) := KC_1228.out.c 1 rfl
            have xC2 : v7.cell? ⟨u20.heap.size, 2, none⟩ = some (.int .i64 T) := KC_1228.out.c 2 rfl
            have zC : u20.heap.size < v7.heap.size := KC_1228.out.2.2
            have z2C : u20.heap.size < v7.heap.size + 1 := by omega
            go_wp2_with fail
            refine (genuine_any ot id T _ l _ HSc.out).mono ?_
            rintro e v9 ⟨rfl, bb9⟩
            rw [hgo.out]
            replace HSc := Lib.hid (HSc.out.step bb9)
            replace HDC := Lib.hid (HDC.out.step bb9)
            replace HR1 := Lib.hid (row_step HR1.out bb9)
            replace HX1 := Lib.hid (HX1.out.step bb9)
            replace HR2 := Lib.hid (row_step HR2.out bb9)
            replace HX2 := Lib.hid (HX2.out.step bb9)
            replace HR3 := Lib.hid (row_step HR3.out bb9)
            replace HX3 := Lib.hid (HX3.out.step bb9)
            clear xC0 xC1 xC2 zC z2C
            have KC_1231 := Lib.hid (KC_1228.out.step bb9)
            clear KC_1228
            have KD_1232 := Lib.hid (KD_1229.out.step bb9)
            clear KD_1229
            have HB1233 := Lib.hid (keep2 bb9 HB1230.out)
            clear HB1230 bb9
            cases go
            case false =>
              go_wp2
              go_ret
              exact ⟨rfl, HB1233.out⟩
            case true =>
              obtain ⟨p5, y5, p6, y6, z5, z6, z7, z8, z9⟩ := two_lists HR1.out HX1.out HR3.out HX3.out (by omega) (by omega) (by omega)
              have hLn : l.length + 1 + (l.length + 1) = (lsL key id l (l.length + 1) ++ lsL ot id l (l.length + 1)).length := by rw [List.length_append, lsL_len, lsL_len]
              have hL26 : (lsL key id l (l.length + 1) ++ lsL ot id l (l.length + 1)).length ≤ 100 := by rw [← hLn]; omega
              rw [hLn] at z7
              have Q7 := Lib.hid z7
              have Q8 := Lib.hid z8
              have Q9 := Lib.hid z9
              clear z7 z8 z9 hLn
              go_wp2_with (first | (at_builtin; refine wpList_app_g _ _ 45 rfl (by simp [Region.wanted, yielded]) _ _ p5 rfl rfl z5 ?_) | (at_builtin; refine wpList_app_g _ _ 45 rfl (by simp [Region.wanted, yielded]) _ _ p6 rfl rfl z6 ?_))
              refine (collide_yes _ _ _ _ _ _ Q7.out Q8.out hL26 (forged HG1.out.2.2 hgo.out (fun h => k9 h.1.symm))).mono ?_
              rintro e v10 ⟨rfl, bq10⟩
              have bb10 := keep2 bq10 Q9.out
              clear bq10 Q7 Q8 Q9 z5 z6 hL26
              replace HSc := Lib.hid (HSc.out.step bb10)
              replace HDC := Lib.hid (HDC.out.step bb10)
              replace HR1 := Lib.hid (row_step HR1.out bb10)
              replace HX1 := Lib.hid (HX1.out.step bb10)
              replace HR2 := Lib.hid (row_step HR2.out bb10)
              replace HX2 := Lib.hid (HX2.out.step bb10)
              replace HR3 := Lib.hid (row_step HR3.out bb10)
              replace HX3 := Lib.hid (HX3.out.step bb10)
              have KC_1234 := Lib.hid (KC_1231.out.step bb10)
              clear KC_1231
              have KD_1235 := Lib.hid (KD_1232.out.step bb10)
              clear KD_1232
              have HB1236 := Lib.hid (keep2 bb10 HB1233.out)
              clear HB1233 bb10
              go_wp2
              go_ret
              exact ⟨rfl, HB1236.out⟩
        case true =>
          have HCL := Lib.hid (changed_cld HG1.out.2.2 hgd.out HP.out (fun h => by have := hsb.out.2 h; cases this))
          clear hsb
          obtain ⟨p5, y5, p6, y6, z5, z6, z7, z8, z9⟩ := two_lists HR1.out HX1.out HR2.out HX2.out (by omega) (by omega) (by omega)
          have hLn : l.length + 1 + (m.length + 1) = (lsL key id l (l.length + 1) ++ lsL key id2 m (m.length + 1)).length := by rw [List.length_append, lsL_len, lsL_len]
          have hL26 : (lsL key id l (l.length + 1) ++ lsL key id2 m (m.length + 1)).length ≤ 100 := by rw [← hLn]; omega
          rw [hLn] at z7
          have Q7 := Lib.hid z7
          have Q8 := Lib.hid z8
          have Q9 := Lib.hid z9
          clear z7 z8 z9 hLn
          go_wp2_with (first | (at_builtin; refine wpList_app_g _ _ 45 rfl (by simp [Region.wanted, yielded]) _ _ p5 rfl rfl z5 ?_) | (at_builtin; refine wpList_app_g _ _ 45 rfl (by simp [Region.wanted, yielded]) _ _ p6 rfl rfl z6 ?_))
          refine (collide_yes _ _ _ _ _ _ Q7.out Q8.out hL26 HCL.out).mono ?_
          rintro e v6 ⟨rfl, bq6⟩
          have bb6 := keep2 bq6 Q9.out
          clear bq6 Q7 Q8 Q9 z5 z6 hL26
          replace HSc := Lib.hid (HSc.out.step bb6)
          replace HDC := Lib.hid (HDC.out.step bb6)
          replace HR1 := Lib.hid (row_step HR1.out bb6)
          replace HX1 := Lib.hid (HX1.out.step bb6)
          replace HR2 := Lib.hid (row_step HR2.out bb6)
          replace HX2 := Lib.hid (HX2.out.step bb6)
          replace HR3 := Lib.hid (row_step HR3.out bb6)
          replace HX3 := Lib.hid (HX3.out.step bb6)
          have KC_1237 := Lib.hid (KC_1213.out.step bb6)
          clear KC_1213
          have KD_1238 := Lib.hid (KD_1214.out.step bb6)
          clear KD_1214
          have HB1239 := Lib.hid (keep2 bb6 HB1215.out)
          clear HB1215 bb6
          have xC0 : v6.cell? ⟨u20.heap.size, 0, none⟩ = some (.int .i64 id) := KC_1237.out.c 0 rfl
          have xC1 : v6.cell? ⟨u20.heap.size, 1, none⟩ = some (.slice sa l.length sc) := KC_1237.out.c 1 rfl
          have xC2 : v6.cell? ⟨u20.heap.size, 2, none⟩ = some (.int .i64 T) := KC_1237.out.c 2 rfl
          have zC : u20.heap.size < v6.heap.size := KC_1237.out.2.2
          have z2C : u20.heap.size < v6.heap.size + 1 := by omega
          go_wp2_with fail
          refine (genuine_any key id T _ l _ HSc.out).mono ?_
          rintro e v7 ⟨rfl, bb7⟩
          rw [HG1.out.2.2]
          replace HSc := Lib.hid (HSc.out.step bb7)
          replace HDC := Lib.hid (HDC.out.step bb7)
          replace HR1 := Lib.hid (row_step HR1.out bb7)
          replace HX1 := Lib.hid (HX1.out.step bb7)
          replace HR2 := Lib.hid (row_step HR2.out bb7)
          replace HX2 := Lib.hid (HX2.out.step bb7)
          replace HR3 := Lib.hid (row_step HR3.out bb7)
          replace HX3 := Lib.hid (HX3.out.step bb7)
          clear xC0 xC1 xC2 zC z2C
          have KC_1240 := Lib.hid (KC_1237.out.step bb7)
          clear KC_1237
          have KD_1241 := Lib.hid (KD_1238.out.step bb7)
          clear KD_1238
          have HB1242 := Lib.hid (keep2 bb7 HB1239.out)
          clear HB1239 bb7
          by_cases k9 : ot = key
          · subst k9
            go_wp2
            go_ret
            exact ⟨rfl, HB1242.out⟩
          · have k91 : (ot == key) = false := by simpa using k9
            have k92 : decide (ot = key) = false := by simpa using k9
            have xC0 : v7.cell? ⟨u20.heap.size, 0, none⟩ = some (.int .i64 id) := KC_1240.out.c 0 rfl
            have xC1 : v7.cell? ⟨u20.heap.size, 1, none⟩ = some (.slice sa l.length sc) := KC_1240.out.c 1 rfl
            have xC2 : v7.cell? ⟨u20.heap.size, 2, none⟩ = some (.int .i64 T) := KC_1240.out.c 2 rfl
            have zC : u20.heap.size < v7.heap.size := KC_1240.out.2.2
            have z2C : u20.heap.size < v7.heap.size + 1 := by omega
            go_wp2_with fail
            refine (genuine_any ot id T _ l _ HSc.out).mono ?_
            rintro e v9 ⟨rfl, bb9⟩
            rw [hgo.out]
            replace HSc := Lib.hid (HSc.out.step bb9)
            replace HDC := Lib.hid (HDC.out.step bb9)
            replace HR1 := Lib.hid (row_step HR1.out bb9)
            replace HX1 := Lib.hid (HX1.out.step bb9)
            replace HR2 := Lib.hid (row_step HR2.out bb9)
            replace HX2 := Lib.hid (HX2.out.step bb9)
            replace HR3 := Lib.hid (row_step HR3.out bb9)
            replace HX3 := Lib.hid (HX3.out.step bb9)
            clear xC0 xC1 xC2 zC z2C
            have KC_1243 := Lib.hid (KC_1240.out.step bb9)
            clear KC_1240
            have KD_1244 := Lib.hid (KD_1241.out.step bb9)
            clear KD_1241
            have HB1245 := Lib.hid (keep2 bb9 HB1242.out)
            clear HB1242 bb9
            cases go
            case false =>
              go_wp2
              go_ret
              exact ⟨rfl, HB1245.out⟩
            case true =>
              obtain ⟨p5, y5, p6, y6, z5, z6, z7, z8, z9⟩ := two_lists HR1.out HX1.out HR3.out HX3.out (by omega) (by omega) (by omega)
              have hLn : l.length + 1 + (l.length + 1) = (lsL key id l (l.length + 1) ++ lsL ot id l (l.length + 1)).length := by rw [List.length_append, lsL_len, lsL_len]
              have hL26 : (lsL key id l (l.length + 1) ++ lsL ot id l (l.length + 1)).length ≤ 100 := by rw [← hLn]; omega
              rw [hLn] at z7
              have Q7 := Lib.hid z7
              have Q8 := Lib.hid z8
              have Q9 := Lib.hid z9
              clear z7 z8 z9 hLn
              go_wp2_with (first | (at_builtin; refine wpList_app_g _ _ 45 rfl (by simp [Region.wanted, yielded]) _ _ p5 rfl rfl z5 ?_) | (at_builtin; refine wpList_app_g _ _ 45 rfl (by simp [Region.wanted, yielded]) _ _ p6 rfl rfl z6 ?_))
              refine (collide_yes _ _ _ _ _ _ Q7.out Q8.out hL26 (forged HG1.out.2.2 hgo.out (fun h => k9 h.1.symm))).mono ?_
              rintro e v10 ⟨rfl, bq10⟩
              have bb10 := keep2 bq10 Q9.out
              clear bq10 Q7 Q8 Q9 z5 z6 hL26
              replace HSc := Lib.hid (HSc.out.step bb10)
              replace HDC := Lib.hid (HDC.out.step bb10)
              replace HR1 := Lib.hid (row_step HR1.out bb10)
              replace HX1 := Lib.hid (HX1.out.step bb10)
              replace HR2 := Lib.hid (row_step HR2.out bb10)
              replace HX2 := Lib.hid (HX2.out.step bb10)
              replace HR3 := Lib.hid (row_step HR3.out bb10)
              replace HX3 := Lib.hid (HX3.out.step bb10)
              have KC_1246 := Lib.hid (KC_1243.out.step bb10)
              clear KC_1243
              have KD_1247 := Lib.hid (KD_1244.out.step bb10)
              clear KD_1244
              have HB1248 := Lib.hid (keep2 bb10 HB1245.out)
              clear HB1245 bb10
              go_wp2
              go_ret
              exact ⟨rfl, HB1248.out⟩
theorem changed_any (key id : Int) (sl : Value) (l : List Cv) (wh vl ot : Int) (w : World) (h : CvsAt w sl l) (b1 : 0 ≤ wh ∧ wh ≤ 255) : Calls Try.prog 6 #[.int .i64 key, .int .i64 id, sl, .int .u8 wh, .int .i64 vl, .int .i64 ot] w fun e w' => e = .returned (.bool true) ∧ Below w.heap.size w w' := by
  by_cases hl : l.length ≤ 12
  · cases hM : mdB key id l
    · exact changed_md key id sl l wh vl ot w h b1 hl hM
    · exact changed_main key id sl l wh vl ot w h b1 hl hM
  · exact changed_len key id sl l wh vl ot w h b1 (by omega)
end Go.Proofs.Ytdifgdnndmikaaa
