/- Sets of tags: law RevokeOrder. -/
import Derived.Test.YtpoldplmaomkaaaRo
namespace Go.Proofs.Ytpoldplmaomkaaa
open Go.RowKit

theorem mg_fit {a b : List Int} (ha : stB a = true) (hb : stB b = true) (h : a.length + b.length ≤ 400) : mgE a b = 0 ∧ mgL a b = mg a b ∧ stB (mg a b) = true := by
  have hl := mg_len a b
  have h4 : (mg a b).length ≤ 400 := by omega
  have e : mgE a b = 0 := by unfold mgE; rw [ha, hb]; simp [h4]
  exact ⟨e, by unfold mgL; rw [e]; rfl, mg_st ha hb h4⟩
/-- A block holds a set whose list is the call's own. -/
def St (B0 : Nat) (w : World) (b : Nat) (l : List Int) : Prop := ∃ a c, Cs w b #[.slice a l.length c] ∧ w.ownsRow B0 3 1 (.slice a l.length c) l.length (l.map (Value.int .i64))
theorem St.step {B0 b : Nat} {w w1 : World} {l : List Int} (h : St B0 w b l) (hb : Below w.heap.size w w1) : St B0 w1 b l := by
  obtain ⟨a, c, h1, h2⟩ := h
  exact ⟨a, c, h1.step hb, row_step h2 hb⟩
theorem St.other {B0 b g j : Nat} {w : World} {x : Value} {l : List Int} (h : St B0 w b l) (hne : b ≠ g) (hg : g < B0) : St B0 (w.setCell ⟨g, j, none⟩ x) b l := by
  obtain ⟨a, c, h1, h2⟩ := h
  exact ⟨a, c, h1.other hne j x, row_other h2 hg⟩
theorem St.new (w : World) (B0 b : Nat) (hb : b = w.heap.size) : St B0 (w.alloc (.cells #[.slice none 0 0] 24)) b [] := ⟨none, 0, Cs.new w b _ 24 hb, World.ownsRow_nil _ _ _ _⟩
/-- A set of the numbers of a list. -/
def So (l zs : List Int) : Prop := stB l = true ∧ l.length ≤ zs.length ∧ ∀ z, z ∈ l ↔ z ∈ zs
theorem So.add {l zs : List Int} {y : Int} (h : So l zs) (hy : 0 ≤ y ∧ y ≤ 2147483646) (hl : zs.length < 50) : mgE l [y] = 0 ∧ mgL l [y] = mg l [y] ∧ So (mg l [y]) (zs ++ [y]) := by
  obtain ⟨h1, h2, h3⟩ := h
  have hs : stB [y] = true := by rw [st_one]; exact inr_iff.2 hy
  obtain ⟨e1, e2, e3⟩ := mg_fit h1 hs (by simp; omega)
  refine ⟨e1, e2, e3, ?_, fun z => ?_⟩
  · have := mg_len l [y]; simp at this ⊢; omega
  · rw [mem_mg, h3, List.mem_append]
def Sp (l r zs : List Int) : Prop := stB l = true ∧ stB r = true ∧ l.length ≤ zs.length ∧ r.length ≤ zs.length ∧ ∀ z, (z ∈ l ∨ z ∈ r) ↔ z ∈ zs
theorem Sp.left {l r zs : List Int} {y : Int} (h : Sp l r zs) (hy : 0 ≤ y ∧ y ≤ 2147483646) (hl : zs.length < 50) : mgE l [y] = 0 ∧ mgL l [y] = mg l [y] ∧ Sp (mg l [y]) r (zs ++ [y]) := by
  obtain ⟨h1, h2, h3, h4, h5⟩ := h
  have hs : stB [y] = true := by rw [st_one]; exact inr_iff.2 hy
  obtain ⟨e1, e2, e3⟩ := mg_fit h1 hs (by simp; omega)
  refine ⟨e1, e2, e3, h2, ?_, by simp; omega, fun z => ?_⟩
  · have := mg_len l [y]; simp at this ⊢; omega
  · rw [mem_mg, List.mem_append, ← h5]
    constructor
    · rintro ((q | q) | q)
      · exact .inl (.inl q)
      · exact .inr q
      · exact .inl (.inr q)
    · rintro ((q | q) | q)
      · exact .inl (.inl q)
      · exact .inr q
      · exact .inl (.inr q)
theorem Sp.right {l r zs : List Int} {y : Int} (h : Sp l r zs) (hy : 0 ≤ y ∧ y ≤ 2147483646) (hl : zs.length < 50) : mgE r [y] = 0 ∧ mgL r [y] = mg r [y] ∧ Sp l (mg r [y]) (zs ++ [y]) := by
  obtain ⟨h1, h2, h3, h4, h5⟩ := h
  have hs : stB [y] = true := by rw [st_one]; exact inr_iff.2 hy
  obtain ⟨e1, e2, e3⟩ := mg_fit h2 hs (by simp; omega)
  refine ⟨e1, e2, h1, e3, by simp; omega, ?_, fun z => ?_⟩
  · have := mg_len r [y]; simp at this ⊢; omega
  · rw [mem_mg, List.mem_append, ← h5, or_assoc]
def md (l : List Int) : List Int := l.map (· % 2147483647)
theorem md_len (l : List Int) : (md l).length = l.length := by simp [md]
theorem md_take {l : List Int} {k : Nat} (h : k < l.length) : (md l).take (k + 1) = (md l).take k ++ [l.getD k 0 % 2147483647] := by
  rw [List.take_succ_eq_append_getElem (by rw [md_len]; exact h)]
  simp [md, h]
theorem md_rtake {l : List Int} {k : Nat} (h : k < l.length) : (md l).reverse.take (k + 1) = (md l).reverse.take k ++ [l.getD (l.length - 1 - k) 0 % 2147483647] := by
  rw [List.take_succ_eq_append_getElem (by simp [md_len]; exact h)]
  congr 1
  have h2 : l.length - 1 - k < l.length := by omega
  simp [md, h2, List.getElem_reverse]
theorem so_nil : So [] [] := ⟨by decide, by simp, fun z => Iff.rfl⟩
theorem sp_nil : Sp [] [] [] := ⟨by decide, by decide, by simp, by simp, by simp⟩
theorem so_end {a b : List Int} {l : List Int} (h1 : So a (md l)) (h2 : So b (md l).reverse) : a = b := by
  have k1 := (st_iff.1 h1.1).1.2
  have k2 := (st_iff.1 h2.1).1.2
  exact inc_ext k1 k2 fun z => by rw [h1.2.2, h2.2.2, List.mem_reverse]
theorem sp_end {a b c : List Int} {l : List Int} (h1 : So a (md l)) (h2 : Sp b c (md l)) (hl : l.length ≤ 50) : mgE b c = 0 ∧ mgL b c = a := by
  obtain ⟨s1, s2, s3, s4, s5⟩ := h2
  rw [md_len] at s3 s4
  obtain ⟨e1, e2, e3⟩ := mg_fit s1 s2 (by omega)
  refine ⟨e1, ?_⟩
  rw [e2]
  exact inc_ext (st_iff.1 e3).1.2 (st_iff.1 h1.1).1.2 fun z => by rw [mem_mg, s5, h1.2.2]
theorem mod_bd (x : Int) : 0 ≤ x % 2147483647 ∧ x % 2147483647 ≤ 2147483646 := ⟨Int.emod_nonneg _ (by omega), by have := Int.emod_lt_of_pos x (show (0 : Int) < 2147483647 by omega); omega⟩
theorem tmod_u32 {x : Int} (h : 0 ≤ x ∧ x ≤ 4294967295) : wrap64 (x.tmod 2147483647) = x % 2147483647 := by
  rw [Int.tmod_eq_emod_of_nonneg h.1]
  exact IntWalk.wrap64_in _ (by have := mod_bd x; omega)
theorem tmod_i64 {x : Int} (h : 0 ≤ x ∧ x ≤ 4294967295) : IntKind.i64.wrap (x.tmod 2147483647) = x % 2147483647 := by
  rw [Int.tmod_eq_emod_of_nonneg h.1]
  exact IntWalk.i64_in _ (by have := mod_bd x; omega)
theorem u32_get {w : World} {v : Value} {l : List Int} (h : U32At w v l) {k : Nat} (hk : k < l.length) : ∃ b off c, v = .slice (some ⟨b, off, none⟩) l.length c ∧ (∀ j, j < l.length → w.cell? ⟨b, off + j, none⟩ = some (.int .u32 (l.getD j 0))) ∧ ∀ j, j < l.length → 0 ≤ l.getD j 0 ∧ l.getD j 0 ≤ 4294967295 := by
  obtain ⟨a, c, rfl, -, hc, hb⟩ := h
  obtain ⟨b, off, rfl, hx⟩ := hc (by intro e; rw [e] at hk; simp at hk)
  exact ⟨b, off, c, rfl, fun j hj => hx j _ (getD_of hj), fun j hj => hb _ (by simp [hj])⟩
/-- A region that makes memory and stores, where the second result may be taken behind the store. -/
def NY (n d : Nat) (lit : (Nat → Value) → Act) (W : World) (G : Nat → Value → World → Prop) (Q : Value → Prop) (Fin : (Nat → Value) → World → Prop) (bf : Nat → Bool) (ac : Act) (wv : World) : Prop :=
  ∃ vs, ac = lit vs ∧ (bf n = true → (∀ i, i < n - 1 → bf i = true) ∧ Q (vs d) ∧ Fin (fun _ => undef) wv) ∧ (bf n = false → Below W.heap.size W wv ∧ ∀ i, bf i = true → G i (vs i) wv)
theorem NY.next {n d : Nat} {lit : (Nat → Value) → Act} {W : World} {G : Nat → Value → World → Prop} {Q : Value → Prop} {Fin : (Nat → Value) → World → Prop} {bf : Nat → Bool} {wv : World} {vs : Nat → Value} (i : Nat) (hi : i < n) {x : Value} {w' : World} {ac' : Act} (hac : ac' = lit (upv vs i x)) (h8 : bf n = false)
    (k : ∀ i, bf i = true → G i (vs i) wv) (hb : Below W.heap.size W w') (hs : ∀ k v, G k v wv → G k v w') (hx : G i x w') : NY n d lit W G Q Fin (up bf i) ac' w' := by
  refine ⟨upv vs i x, hac, fun h => ?_, fun _ => ⟨hb, fun j hu => ?_⟩⟩
  · rw [up_ne _ _ _ (by omega), h8] at h; cases h
  · by_cases e : j = i
    · subst e; rw [upv_same]; exact hx
    · rw [up_ne _ _ _ e] at hu; rw [upv_ne _ _ _ _ e]; exact hs _ _ (k j hu)
theorem NY.late {n d i : Nat} {lit : (Nat → Value) → Act} {W : World} {G : Nat → Value → World → Prop} {Q : Value → Prop} {Fin : (Nat → Value) → World → Prop} {bf : Nat → Bool} {wv : World} {vs : Nat → Value} (hd : d < i ∧ i < n) {x : Value} {ac' : Act} (hac : ac' = lit (upv vs i x)) (h8 : bf n = true)
    (ha : ∀ i, i < n - 1 → bf i = true) (hq : Q (vs d)) (hF : Fin (fun _ => undef) wv) : NY n d lit W G Q Fin (up bf i) ac' wv := by
  refine ⟨upv vs i x, hac, fun _ => ⟨fun j hj => ?_, ?_, hF⟩, fun h => ?_⟩
  · unfold up; rw [ha j hj]; simp
  · rw [upv_ne _ _ _ _ (by omega)]; exact hq
  · rw [up_ne _ _ _ (by omega), h8] at h; cases h
theorem NY.last {n d : Nat} {lit : (Nat → Value) → Act} {W : World} {G : Nat → Value → World → Prop} {Q : Value → Prop} {Fin : (Nat → Value) → World → Prop} {bf : Nat → Bool} {w' : World} {vs : Nat → Value} {ac' : Act} (hac : ac' = lit vs) (ha : ∀ i, i < n - 1 → bf i = true) (hq : Q (vs d)) (hF : Fin (fun _ => undef) w') : NY n d lit W G Q Fin (up bf n) ac' w' := by
  refine ⟨vs, hac, fun _ => ⟨fun i hi => (by rw [up_ne _ _ _ (by omega)]; exact ha i hi), hq, hF⟩, fun h => ?_⟩
  rw [up_same] at h; cases h
theorem all10 {bf : Nat → Bool} (h0 : bf 0 = true) (h1 : bf 1 = true) (h2 : bf 2 = true) (h3 : bf 3 = true) (h4 : bf 4 = true) (h5 : bf 5 = true) (h6 : bf 6 = true) (h7 : bf 7 = true) (h8 : bf 8 = true) (h9 : bf 9 = true) : ∀ i, i < 10 → bf i = true := fun i hi => by
  rcases i with _ | _ | _ | _ | _ | _ | _ | _ | _ | _ | i
  · exact h0
  · exact h1
  · exact h2
  · exact h3
  · exact h4
  · exact h5
  · exact h6
  · exact h7
  · exact h8
  · exact h9
  · omega
theorem all14 {bf : Nat → Bool} (h0 : bf 0 = true) (h1 : bf 1 = true) (h2 : bf 2 = true) (h3 : bf 3 = true) (h4 : bf 4 = true) (h5 : bf 5 = true) (h6 : bf 6 = true) (h7 : bf 7 = true) (h8 : bf 8 = true) (h9 : bf 9 = true) (h10 : bf 10 = true) (h11 : bf 11 = true) (h12 : bf 12 = true) (h13 : bf 13 = true) : ∀ i, i < 14 → bf i = true := fun i hi => by
  rcases i with _ | _ | _ | _ | _ | _ | _ | _ | _ | _ | _ | _ | _ | _ | i
  · exact h0
  · exact h1
  · exact h2
  · exact h3
  · exact h4
  · exact h5
  · exact h6
  · exact h7
  · exact h8
  · exact h9
  · exact h10
  · exact h11
  · exact h12
  · exact h13
  · omega
set_option maxRecDepth 100000 in
set_option maxHeartbeats 4000000 in
theorem order_len (vt : Value) (l : List Int) (vp : Value) (q : List Bool) (w : World) (ht : U32At w vt l) (hp : BosAt w vp q) (hl : 50 < l.length) : Calls Try.prog 6 #[vt, vp] w fun e w' => e = .returned (.bool true) ∧ Below w.heap.size w w' := by
  have HT := Lib.hid ht
  have HP := Lib.hid hp
  obtain ⟨ta, tc, rfl, htm, -⟩ := ht
  obtain ⟨pa, pc, rfl, hpm, -⟩ := hp
  unfold maxLen at htm hpm
  have g3 : decide (((l).length : Int) > 50) = true := by simp; omega
  have g4 : decide ((50 : Int) < ((l).length : Int)) = true := by simp; omega
  have HB0 := Lib.hid (Below.refl w.heap.size w)
  go_enter Try.func6, Try.ntmps6
  go_wp2_with fail
  refine (head_any _).mono ?_
  rintro e u1 ⟨rfl, b1⟩
  have HB1 := Lib.hid (keep2 b1 HB0.out)
  clear HB0 b1
  go_wp2
  go_ret
  exact ⟨rfl, HB1.out⟩
set_option maxRecDepth 100000 in
set_option maxHeartbeats 4000000 in
theorem order_ok (vt : Value) (l : List Int) (vp : Value) (q : List Bool) (w : World) (ht : U32At w vt l) (hp : BosAt w vp q) (hl : l.length ≤ 50) : Calls Try.prog 6 #[vt, vp] w fun e w' => e = .returned (.bool true) ∧ Below w.heap.size w w' := by
  have HT := Lib.hid ht
  have HP := Lib.hid hp
  obtain ⟨ta, tc, rfl, htm, -⟩ := ht
  obtain ⟨pa, pc, rfl, hpm, -⟩ := hp
  unfold maxLen at htm hpm
  have g3 : decide (((l).length : Int) > 50) = false := by simp; omega
  have g4 : decide ((50 : Int) < ((l).length : Int)) = false := by simp; omega
  have HB0 := Lib.hid (Below.refl w.heap.size w)
  go_enter Try.func6, Try.ntmps6
  go_wp2_with fail
  refine (head_any _).mono ?_
  rintro e u1 ⟨rfl, b1⟩
  have HB1 := Lib.hid (keep2 b1 HB0.out)
  clear HB0 b1
  go_wp2_with fail
  have KS0 : Hid (St (u1.heap.size + 4) ((((u1.alloc (.cells #[.slice none 0 0] 24)).alloc (.cells #[.slice none 0 0] 24)).alloc (.cells #[.slice none 0 0] 24)).alloc (.cells #[.slice none 0 0] 24)) (u1.heap.size) []) := Lib.hid ((((St.new u1 (u1.heap.size + 4) (u1.heap.size) (by simp)).step (al (u1.alloc (.cells #[.slice none 0 0] 24)) (.cells #[.slice none 0 0] 24))).step (al ((u1.alloc (.cells #[.slice none 0 0] 24)).alloc (.cells #[.slice none 0 0] 24)) (.cells #[.slice none 0 0] 24))).step (al (((u1.alloc (.cells #[.slice none 0 0] 24)).alloc (.cells #[.slice none 0 0] 24)).alloc (.cells #[.slice none 0 0] 24)) (.cells #[.slice none 0 0] 24)))
  have KS1 : Hid (St (u1.heap.size + 4) ((((u1.alloc (.cells #[.slice none 0 0] 24)).alloc (.cells #[.slice none 0 0] 24)).alloc (.cells #[.slice none 0 0] 24)).alloc (.cells #[.slice none 0 0] 24)) (u1.heap.size + 1) []) := Lib.hid (((St.new (u1.alloc (.cells #[.slice none 0 0] 24)) (u1.heap.size + 4) (u1.heap.size + 1) (by simp)).step (al ((u1.alloc (.cells #[.slice none 0 0] 24)).alloc (.cells #[.slice none 0 0] 24)) (.cells #[.slice none 0 0] 24))).step (al (((u1.alloc (.cells #[.slice none 0 0] 24)).alloc (.cells #[.slice none 0 0] 24)).alloc (.cells #[.slice none 0 0] 24)) (.cells #[.slice none 0 0] 24)))
  have KS2 : Hid (St (u1.heap.size + 4) ((((u1.alloc (.cells #[.slice none 0 0] 24)).alloc (.cells #[.slice none 0 0] 24)).alloc (.cells #[.slice none 0 0] 24)).alloc (.cells #[.slice none 0 0] 24)) (u1.heap.size + 1 + 1) []) := Lib.hid ((St.new ((u1.alloc (.cells #[.slice none 0 0] 24)).alloc (.cells #[.slice none 0 0] 24)) (u1.heap.size + 4) (u1.heap.size + 1 + 1) (by simp)).step (al (((u1.alloc (.cells #[.slice none 0 0] 24)).alloc (.cells #[.slice none 0 0] 24)).alloc (.cells #[.slice none 0 0] 24)) (.cells #[.slice none 0 0] 24)))
  have KS3 : Hid (St (u1.heap.size + 4) ((((u1.alloc (.cells #[.slice none 0 0] 24)).alloc (.cells #[.slice none 0 0] 24)).alloc (.cells #[.slice none 0 0] 24)).alloc (.cells #[.slice none 0 0] 24)) (u1.heap.size + 1 + 1 + 1) []) := Lib.hid (St.new (((u1.alloc (.cells #[.slice none 0 0] 24)).alloc (.cells #[.slice none 0 0] 24)).alloc (.cells #[.slice none 0 0] 24)) (u1.heap.size + 4) (u1.heap.size + 1 + 1 + 1) (by simp))
  have HBs := Lib.hid (show Below w.heap.size w ((((u1.alloc (.cells #[.slice none 0 0] 24)).alloc (.cells #[.slice none 0 0] 24)).alloc (.cells #[.slice none 0 0] 24)).alloc (.cells #[.slice none 0 0] 24)) from (((((HB1.out).alloc (by have := HB1.out.size; omega) _).alloc (by have := HB1.out.size; simp; omega) _).alloc (by have := HB1.out.size; simp; omega) _).alloc (by have := HB1.out.size; simp; omega) _))
  have HSZ2 := Lib.hid HB1.out.size
  obtain ⟨Wx, hWx⟩ : ∃ W, ((((u1.alloc (.cells #[.slice none 0 0] 24)).alloc (.cells #[.slice none 0 0] 24)).alloc (.cells #[.slice none 0 0] 24)).alloc (.cells #[.slice none 0 0] 24)) = W := ⟨_, rfl⟩
  have hx4 : Wx.heap.size = u1.heap.size + 4 := by rw [← hWx]; simp
  rw [hWx] at KS0 KS1 KS2 KS3 HBs ⊢
  clear hWx
  have HX4 := Lib.hid hx4
  clear hx4 HB1
  go_loopw [10] (fun i wr => ∃ (k : Nat) (oL bL lL rL : List Int), k ≤ l.length ∧ i = .int .i64 k ∧ Hid (So oL ((md l).take k) ∧ So bL ((md l).reverse.take k) ∧ Sp lL rL ((md l).take k)) ∧ Hid (St (u1.heap.size + 4) wr (u1.heap.size) oL) ∧ Hid (St (u1.heap.size + 4) wr (u1.heap.size + 1) bL) ∧ Hid (St (u1.heap.size + 4) wr (u1.heap.size + 1 + 1) lL) ∧ Hid (St (u1.heap.size + 4) wr (u1.heap.size + 1 + 1 + 1) rL) ∧ Hid (Below w.heap.size w wr ∧ u1.heap.size + 4 ≤ wr.heap.size)) (fun i _ => l.length - (intOf i).toNat)
  case atStart => exact ⟨0, [], [], [], [], by omega, rfl, ⟨so_nil, so_nil, sp_nil⟩, KS0.out, KS1.out, KS2.out, KS3.out, HBs.out, by have := HX4.out; omega⟩
  case round =>
    clear KS0 KS1 KS2 KS3 HBs HX4
    obtain ⟨k, oL, bL, lL, rL, hk, rfl, HSO, KS0, KS1, KS2, KS3, HBr0⟩ := hrel
    have HBr := Lib.hid HBr0.out.1
    have hr4 := HBr0.out.2
    by_cases hlt : k < l.length
    · obtain ⟨tb, tf, tc2, hta, hcell, hbds⟩ := u32_get HT.out hlt
      obtain ⟨rfl, rfl⟩ : ta = some ⟨tb, tf, none⟩ ∧ tc = tc2 := by simpa using hta
      obtain ⟨hso1, hso2, hso3⟩ := HSO.out
      have hT1 := md_take hlt
      have hT2 := md_rtake hlt
      have hk2 : l.length - 1 - k < l.length := by omega
      obtain ⟨x, hxx⟩ : ∃ x, l.getD k 0 = x := ⟨_, rfl⟩
      obtain ⟨z, hzz⟩ : ∃ z, l.getD (l.length - 1 - k) 0 = z := ⟨_, rfl⟩
      have hx := hcell k hlt
      have hz := hcell _ hk2
      have hbx := hbds k hlt
      have hbz := hbds _ hk2
      rw [hxx] at hx hbx hT1
      rw [hzz] at hz hbz hT2
      clear hxx hzz hcell hbds hta
      have tx0 := tmod_u32 hbx
      have tz0 := tmod_u32 hbz
      have tx1 := tmod_i64 hbx
      have tz1 := tmod_i64 hbz
      have tx2 : x.tmod 2147483647 = x % 2147483647 := Int.tmod_eq_emod_of_nonneg hbx.1
      have tz2 : z.tmod 2147483647 = z % 2147483647 := Int.tmod_eq_emod_of_nonneg hbz.1
      obtain ⟨y, hy⟩ : ∃ y, x % 2147483647 = y := ⟨_, rfl⟩
      obtain ⟨yz, hyz⟩ : ∃ yz, z % 2147483647 = yz := ⟨_, rfl⟩
      have hby : 0 ≤ y ∧ y ≤ 2147483646 := by rw [← hy]; exact mod_bd x
      have hbyz : 0 ≤ yz ∧ yz ≤ 2147483646 := by rw [← hyz]; exact mod_bd z
      rw [hy] at tx0 tx1 tx2 hT1
      rw [hyz] at tz0 tz1 tz2 hT2
      clear hy hyz
      have htk : ((md l).take k).length < 50 := by rw [List.length_take, md_len]; omega
      have htr : ((md l).reverse.take k).length < 50 := by rw [List.length_take, List.length_reverse, md_len]; omega
      obtain ⟨a1, a2, a3⟩ := hso1.add hby htk
      obtain ⟨b1, b2, b3⟩ := hso2.add hbyz htr
      obtain ⟨c1, c2, c3⟩ := hso3.left hby htk
      obtain ⟨d1, d2, d3⟩ := hso3.right hby htk
      rw [← hT1] at a3 c3 d3
      rw [← hT2] at b3
      obtain ⟨oN, hoN⟩ : ∃ L, mg oL [y] = L := ⟨_, rfl⟩
      rw [hoN] at a2 a3
      clear hoN
      have Eo := Lib.hid a1
      have Lo := Lib.hid a2
      have Fo := Lib.hid a3
      clear a1 a2 a3
      obtain ⟨bN, hbN⟩ : ∃ L, mg bL [yz] = L := ⟨_, rfl⟩
      rw [hbN] at b2 b3
      clear hbN
      have Eb := Lib.hid b1
      have Lb := Lib.hid b2
      have Fb := Lib.hid b3
      clear b1 b2 b3
      obtain ⟨lN, hlN⟩ : ∃ L, mg lL [y] = L := ⟨_, rfl⟩
      rw [hlN] at c2 c3
      clear hlN
      have El := Lib.hid c1
      have Ll := Lib.hid c2
      have Fl := Lib.hid c3
      clear c1 c2 c3
      obtain ⟨rN, hrN⟩ : ∃ L, mg rL [y] = L := ⟨_, rfl⟩
      rw [hrN] at d2 d3
      clear hrN
      have Er := Lib.hid d1
      have Lr := Lib.hid d2
      have Fr := Lib.hid d3
      clear d1 d2 d3
      clear hso1 hso2 hso3 hT1 hT2 htk htr hby hbyz
      have Hx := Lib.hid hx
      have Hz := Lib.hid hz
      have Htx := Lib.hid tx0
      have Htz := Lib.hid tz0
      have Hwx := Lib.hid tx1
      have Hwz := Lib.hid tz1
      have Hvx := Lib.hid tx2
      have Hvz := Lib.hid tz2
      have Hcx := Lib.hid (show IntKind.i64.wrap x = x from IntWalk.i64_in _ (by omega))
      have Hcz := Lib.hid (show IntKind.i64.wrap z = z from IntWalk.i64_in _ (by omega))
      clear hx hz tx0 tz0 tx1 tz1 tx2 tz2
      go_wp2_with fail
      obtain ⟨xa, xc, hx1, hx2⟩ := KS0.out
      have HC1 := Lib.hid hx1
      have HC2 := Lib.hid hx2
      clear hx1 hx2
      have hW4 := hr4
      obtain ⟨lit, hlit⟩ : ∃ lit : (Nat → Value) → Act, lit = fun vs => { tmps := List.toArray (Value.slice (some { block := tb, off := tf }) l.length tc :: Value.slice pa q.length pc :: undef :: undef :: Value.bool false :: Value.bool true :: Value.pointer (some { block := u1.heap.size, off := 0 }) :: Value.pointer (some { block := u1.heap.size + 1, off := 0 }) :: Value.pointer (some { block := u1.heap.size + 1 + 1, off := 0 }) :: Value.pointer (some { block := u1.heap.size + 1 + 1 + 1, off := 0 }) :: Value.int IntKind.i64 (k : Int) :: undef :: undef :: Value.bool true :: Value.slice (some { block := tb, off := tf }) l.length tc :: Value.int IntKind.i64 (l.length : Int) :: Value.bool false :: undef :: Value.agg #[Value.slice none 0 0] :: Value.agg #[Value.slice none 0 0] :: Value.agg #[Value.slice none 0 0] :: Value.agg #[Value.slice none 0 0] :: Value.int IntKind.i64 (k : Int) :: Value.slice (some { block := tb, off := tf }) l.length tc :: Value.int IntKind.i64 (l.length : Int) :: Value.bool true :: u26 :: u27 :: vs 8 :: vs 0 :: vs 1 :: vs 2 :: vs 3 :: vs 4 :: vs 5 :: vs 6 :: vs 7 :: vs 9 :: vs 10 :: u39 :: u40 :: u41 :: u42 :: u43 :: u44 :: u45 :: u46 :: u47 :: u48 :: u49 :: u50 :: u51 :: u52 :: u53 :: u54 :: u55 :: u56 :: u57 :: u58 :: u59 :: u60 :: u61 :: u62 :: u63 :: u64 :: u65 :: u66 :: u67 :: u68 :: u69 :: u70 :: u71 :: u72 :: u73 :: u74 :: u75 :: u76 :: u77 :: u78 :: u79 :: u80 :: u81 :: u82 :: u83 :: u84 :: u85 :: undef :: undef :: undef :: undef :: undef :: undef :: undef :: undef :: undef :: undef :: undef :: undef :: undef :: undef :: undef :: undef :: undef :: undef :: undef :: undef :: undef :: undef :: undef :: undef :: undef :: []), defers := [] } := ⟨_, rfl⟩
      have HLIT := Lib.hid hlit
      clear hlit
      obtain ⟨val, hval⟩ : ∃ val : List Value, val = [.agg #[.slice xa oL.length xc], .slice (some ⟨tb, tf, none⟩) l.length tc, .int .i64 (k : Int), .pointer (some ⟨tb, tf + k, none⟩), .int .u32 x, .int .i64 x, .int .i64 y, undef, undef, undef, .int .i64 0, undef] := ⟨_, rfl⟩
      have E0 := Lib.hid (show val.getD 0 undef = .agg #[.slice xa oL.length xc] by rw [hval]; rfl)
      have E1 := Lib.hid (show val.getD 1 undef = .slice (some ⟨tb, tf, none⟩) l.length tc by rw [hval]; rfl)
      have E2 := Lib.hid (show val.getD 2 undef = .int .i64 (k : Int) by rw [hval]; rfl)
      have E3 := Lib.hid (show val.getD 3 undef = .pointer (some ⟨tb, tf + k, none⟩) by rw [hval]; rfl)
      have E4 := Lib.hid (show val.getD 4 undef = .int .u32 x by rw [hval]; rfl)
      have E5 := Lib.hid (show val.getD 5 undef = .int .i64 x by rw [hval]; rfl)
      have E6 := Lib.hid (show val.getD 6 undef = .int .i64 y by rw [hval]; rfl)
      have E10 := Lib.hid (show val.getD 10 undef = .int .i64 0 by rw [hval]; rfl)
      clear hval
      obtain ⟨G, hG0⟩ : ∃ G : Nat → Value → World → Prop, G = (fun i v w => (i = 7 → ∃ ua uc, v = .tuple #[.agg #[.slice ua oN.length uc], .int .i64 0] ∧ w.ownsRow (u1.heap.size + 4) 3 1 (.slice ua oN.length uc) oN.length (oN.map (Value.int .i64))) ∧ (i = 8 → ∃ ua uc, v = .tuple #[.agg #[.slice ua oN.length uc], .int .i64 0] ∧ w.ownsRow (u1.heap.size + 4) 3 1 (.slice ua oN.length uc) oN.length (oN.map (Value.int .i64))) ∧ (i = 9 → ∃ ua uc, v = .agg #[.slice ua oN.length uc] ∧ w.ownsRow (u1.heap.size + 4) 3 1 (.slice ua oN.length uc) oN.length (oN.map (Value.int .i64))) ∧ (i ≠ 7 → i ≠ 8 → i ≠ 9 → v = val.getD i undef)) := ⟨_, rfl⟩
      have HG := Lib.hid hG0
      clear hG0
      refine region_inv (NY 11 8 lit wr G (fun v => ∃ ua uc, v = .tuple #[.agg #[.slice ua oN.length uc], .int .i64 0]) (fun vs wv => St (u1.heap.size + 4) wv (u1.heap.size) oN ∧ St (u1.heap.size + 4) wv (u1.heap.size + 1) bL ∧ St (u1.heap.size + 4) wv (u1.heap.size + 1 + 1) lL ∧ St (u1.heap.size + 4) wv (u1.heap.size + 1 + 1 + 1) rL ∧ Below w.heap.size w wv ∧ u1.heap.size + 4 ≤ wv.heap.size)) (by kernel_rfl) (by decide +kernel) ?_ ?_ ?_
      · exact ⟨fun i => ([u29, u30, u31, u32, u33, u34, u35, u36, u28, u37, u38, undef] : List Value).getD i undef, (by rw [HLIT.out]; rfl), fun h => (by cases h), fun _ => ⟨below_drew _ _, fun i h => by cases h⟩⟩
      · refine ⟨?_, ?_, ?_, ?_, ?_, ?_, ?_, ?_, ?_, ?_, ?_, ?_, trivial⟩
        · intro bf ac wv hfb haf hJ K' hK
          obtain ⟨vs, rfl, j8, jn⟩ := hJ
          replace hK := Lib.hid hK
          have h8 : bf 11 = false := Bool.eq_false_iff.2 fun h => absurd (((j8 h).1 0 (by omega)).symm.trans hfb) (by simp)
          obtain ⟨hM, j4⟩ := jn h8
          replace hM := Lib.hid hM
          rw [HG.out] at j4
          replace j4 := Lib.hid j4
          clear haf hfb jn j8
          have K1 := HC1.out.step hM.out
          have x0 := K1.c 0 rfl
          have xz := K1.2.2
          clear K1
          rw [HLIT.out]
          go_simp
          exact hK.out _ _ (NY.next (wv := wv) (vs := vs) 0 (by omega) (x := .agg #[.slice xa oL.length xc]) (by rw [HLIT.out]; rfl) h8 (by rw [HG.out]; exact j4.out) hM.out (by rw [HG.out]; exact fun _ _ h => h) (by rw [HG.out]; exact ⟨fun h => absurd h (by decide), fun h => absurd h (by decide), fun h => absurd h (by decide), fun _ _ _ => E0.out.symm⟩))
        · intro bf ac wv hfb haf hJ K' hK
          obtain ⟨vs, rfl, j8, jn⟩ := hJ
          replace hK := Lib.hid hK
          have h8 : bf 11 = false := Bool.eq_false_iff.2 fun h => absurd (((j8 h).1 1 (by omega)).symm.trans hfb) (by simp)
          obtain ⟨hM, j4⟩ := jn h8
          replace hM := Lib.hid hM
          rw [HG.out] at j4
          replace j4 := Lib.hid j4
          clear haf hfb jn j8
          rw [HLIT.out]
          go_simp
          exact hK.out _ _ (NY.next (wv := wv) (vs := vs) 1 (by omega) (x := .slice (some ⟨tb, tf, none⟩) l.length tc) (by rw [HLIT.out]; rfl) h8 (by rw [HG.out]; exact j4.out) hM.out (by rw [HG.out]; exact fun _ _ h => h) (by rw [HG.out]; exact ⟨fun h => absurd h (by decide), fun h => absurd h (by decide), fun h => absurd h (by decide), fun _ _ _ => E1.out.symm⟩))
        · intro bf ac wv hfb haf hJ K' hK
          obtain ⟨vs, rfl, j8, jn⟩ := hJ
          replace hK := Lib.hid hK
          have h8 : bf 11 = false := Bool.eq_false_iff.2 fun h => absurd (((j8 h).1 2 (by omega)).symm.trans hfb) (by simp)
          obtain ⟨hM, j4⟩ := jn h8
          replace hM := Lib.hid hM
          rw [HG.out] at j4
          replace j4 := Lib.hid j4
          clear haf hfb jn j8
          rw [HLIT.out]
          go_simp
          exact hK.out _ _ (NY.next (wv := wv) (vs := vs) 2 (by omega) (x := .int .i64 (k : Int)) (by rw [HLIT.out]; rfl) h8 (by rw [HG.out]; exact j4.out) hM.out (by rw [HG.out]; exact fun _ _ h => h) (by rw [HG.out]; exact ⟨fun h => absurd h (by decide), fun h => absurd h (by decide), fun h => absurd h (by decide), fun _ _ _ => E2.out.symm⟩))
        · intro bf ac wv hfb haf hJ K' hK
          obtain ⟨vs, rfl, j8, jn⟩ := hJ
          replace hK := Lib.hid hK
          have h8 : bf 11 = false := Bool.eq_false_iff.2 fun h => absurd (((j8 h).1 3 (by omega)).symm.trans hfb) (by simp)
          obtain ⟨hM, j4⟩ := jn h8
          replace hM := Lib.hid hM
          rw [HG.out] at j4
          simp [Region.binds] at haf
          have e1 := ((j4 1 (by simp [haf])).2.2.2 (by decide) (by decide) (by decide)).trans E1.out
          have e2 := ((j4 2 (by simp [haf])).2.2.2 (by decide) (by decide) (by decide)).trans E2.out
          replace j4 := Lib.hid j4
          clear haf hfb jn j8
          have y1 : (k : Int) < (l.length : Int) := by omega
          have y2 : (0 : Int) ≤ (k : Int) := by omega
          rw [HLIT.out]
          go_simp
          exact hK.out _ _ (NY.next (wv := wv) (vs := vs) 3 (by omega) (x := .pointer (some ⟨tb, tf + k, none⟩)) (by rw [HLIT.out]; simp only [upv, e1, e2, Nat.reduceBEq, cond_true, cond_false]) h8 (by rw [HG.out]; exact j4.out) hM.out (by rw [HG.out]; exact fun _ _ h => h) (by rw [HG.out]; exact ⟨fun h => absurd h (by decide), fun h => absurd h (by decide), fun h => absurd h (by decide), fun _ _ _ => E3.out.symm⟩))
        · intro bf ac wv hfb haf hJ K' hK
          obtain ⟨vs, rfl, j8, jn⟩ := hJ
          replace hK := Lib.hid hK
          have h8 : bf 11 = false := Bool.eq_false_iff.2 fun h => absurd (((j8 h).1 4 (by omega)).symm.trans hfb) (by simp)
          obtain ⟨hM, j4⟩ := jn h8
          replace hM := Lib.hid hM
          rw [HG.out] at j4
          simp [Region.binds] at haf
          have e3 := ((j4 3 (by simp [haf])).2.2.2 (by decide) (by decide) (by decide)).trans E3.out
          replace j4 := Lib.hid j4
          clear haf hfb jn j8
          have xg := keep1 (keep2 hM.out HBr.out) Hx.out
          have xgz := World.block_lt_of_cell? _ _ xg
          have xgz : tb < wv.heap.size := xgz
          rw [HLIT.out]
          go_simp
          exact hK.out _ _ (NY.next (wv := wv) (vs := vs) 4 (by omega) (x := .int .u32 x) (by rw [HLIT.out]; simp only [upv, e3, Nat.reduceBEq, cond_true, cond_false]) h8 (by rw [HG.out]; exact j4.out) hM.out (by rw [HG.out]; exact fun _ _ h => h) (by rw [HG.out]; exact ⟨fun h => absurd h (by decide), fun h => absurd h (by decide), fun h => absurd h (by decide), fun _ _ _ => E4.out.symm⟩))
        · intro bf ac wv hfb haf hJ K' hK
          obtain ⟨vs, rfl, j8, jn⟩ := hJ
          replace hK := Lib.hid hK
          have h8 : bf 11 = false := Bool.eq_false_iff.2 fun h => absurd (((j8 h).1 5 (by omega)).symm.trans hfb) (by simp)
          obtain ⟨hM, j4⟩ := jn h8
          replace hM := Lib.hid hM
          rw [HG.out] at j4
          simp [Region.binds] at haf
          have e4 := ((j4 4 (by simp [haf])).2.2.2 (by decide) (by decide) (by decide)).trans E4.out
          replace j4 := Lib.hid j4
          clear haf hfb jn j8
          have cx := Hcx.out
          rw [HLIT.out]
          go_simp
          exact hK.out _ _ (NY.next (wv := wv) (vs := vs) 5 (by omega) (x := .int .i64 x) (by rw [HLIT.out]; simp only [upv, e4, cx, Nat.reduceBEq, cond_true, cond_false]) h8 (by rw [HG.out]; exact j4.out) hM.out (by rw [HG.out]; exact fun _ _ h => h) (by rw [HG.out]; exact ⟨fun h => absurd h (by decide), fun h => absurd h (by decide), fun h => absurd h (by decide), fun _ _ _ => E5.out.symm⟩))
        · intro bf ac wv hfb haf hJ K' hK
          obtain ⟨vs, rfl, j8, jn⟩ := hJ
          replace hK := Lib.hid hK
          have h8 : bf 11 = false := Bool.eq_false_iff.2 fun h => absurd (((j8 h).1 6 (by omega)).symm.trans hfb) (by simp)
          obtain ⟨hM, j4⟩ := jn h8
          replace hM := Lib.hid hM
          rw [HG.out] at j4
          simp [Region.binds] at haf
          have e5 := ((j4 5 (by simp [haf])).2.2.2 (by decide) (by decide) (by decide)).trans E5.out
          replace j4 := Lib.hid j4
          clear haf hfb jn j8
          have tx := Htx.out
          have txw := Hwx.out
          have txv := Hvx.out
          rw [HLIT.out]
          go_simp
          exact hK.out _ _ (NY.next (wv := wv) (vs := vs) 6 (by omega) (x := .int .i64 y) (by rw [HLIT.out]; simp only [upv, e5, tx, txw, txv, Nat.reduceBEq, cond_true, cond_false]) h8 (by rw [HG.out]; exact j4.out) hM.out (by rw [HG.out]; exact fun _ _ h => h) (by rw [HG.out]; exact ⟨fun h => absurd h (by decide), fun h => absurd h (by decide), fun h => absurd h (by decide), fun _ _ _ => E6.out.symm⟩))
        · intro bf ac wv hfb haf hJ K' hK
          obtain ⟨vs, rfl, j8, jn⟩ := hJ
          replace hK := Lib.hid hK
          have h8 : bf 11 = false := Bool.eq_false_iff.2 fun h => absurd (((j8 h).1 7 (by omega)).symm.trans hfb) (by simp)
          obtain ⟨hM, j4⟩ := jn h8
          replace hM := Lib.hid hM
          rw [HG.out] at j4
          simp [Region.binds] at haf
          have e0 := ((j4 0 (by simp [haf])).2.2.2 (by decide) (by decide) (by decide)).trans E0.out
          have e6 := ((j4 6 (by simp [haf])).2.2.2 (by decide) (by decide) (by decide)).trans E6.out
          replace j4 := Lib.hid j4
          clear haf hfb jn j8
          rw [HLIT.out]
          go_simp
          go_at_call 11
          refine (add_any _ oL y _ (tg_of_row (row_step HC2.out hM.out))).mono ?_
          rintro e w4 ⟨⟨u, rfl, hu⟩, b4⟩
          rw [Lo.out] at hu
          rw [Eo.out]
          obtain ⟨ua, uc, rfl⟩ := row_slice hu
          exact hK.out _ _ (NY.next (wv := wv) (vs := vs) 7 (by omega) (x := .tuple #[.agg #[.slice ua oN.length uc], .int .i64 0]) (by rw [HLIT.out]; simp only [upv, e0, e6, Nat.reduceBEq, cond_true, cond_false]) h8 (by rw [HG.out]; exact j4.out) (keep2 b4 hM.out) (by rw [HG.out]; exact fun k v h => ⟨fun z => (by
            obtain ⟨ua, uc, z1, z2⟩ := h.1 z
            exact ⟨ua, uc, z1, row_step z2 b4⟩), fun z => (by
            obtain ⟨ua, uc, z1, z2⟩ := h.2.1 z
            exact ⟨ua, uc, z1, row_step z2 b4⟩), fun z => (by
            obtain ⟨ua, uc, z1, z2⟩ := h.2.2.1 z
            exact ⟨ua, uc, z1, row_step z2 b4⟩), h.2.2.2⟩) (by rw [HG.out]; exact ⟨fun _ => ⟨ua, uc, rfl, row_base hu (by have := hM.out.size; omega)⟩, fun h => absurd h (by decide), fun h => absurd h (by decide), fun h7 => absurd rfl h7⟩))
        · intro bf ac wv hfb haf hJ K' hK
          obtain ⟨vs, rfl, j8, jn⟩ := hJ
          replace hK := Lib.hid hK
          have h8 : bf 11 = false := Bool.eq_false_iff.2 fun h => absurd (((j8 h).1 8 (by omega)).symm.trans hfb) (by simp)
          obtain ⟨hM, j4⟩ := jn h8
          replace hM := Lib.hid hM
          rw [HG.out] at j4
          simp [Region.binds] at haf
          have e7 := (j4 7 (by simp [haf])).1 rfl
          replace j4 := Lib.hid j4
          clear haf hfb jn j8
          obtain ⟨ua, uc, z1, z2⟩ := e7
          rw [HLIT.out]
          go_simp
          exact hK.out _ _ (NY.next (wv := wv) (vs := vs) 8 (by omega) (x := .tuple #[.agg #[.slice ua oN.length uc], .int .i64 0]) (by rw [HLIT.out]; simp only [upv, z1, Nat.reduceBEq, cond_true, cond_false]) h8 (by rw [HG.out]; exact j4.out) hM.out (by rw [HG.out]; exact fun _ _ h => h) (by rw [HG.out]; exact ⟨fun h => absurd h (by decide), fun _ => ⟨ua, uc, rfl, z2⟩, fun h => absurd h (by decide), fun h7 => fun h8 => absurd rfl h8⟩))
        · intro bf ac wv hfb haf hJ K' hK
          obtain ⟨vs, rfl, j8, jn⟩ := hJ
          replace hK := Lib.hid hK
          have h8 : bf 11 = false := Bool.eq_false_iff.2 fun h => absurd (((j8 h).1 9 (by omega)).symm.trans hfb) (by simp)
          obtain ⟨hM, j4⟩ := jn h8
          replace hM := Lib.hid hM
          rw [HG.out] at j4
          simp [Region.binds] at haf
          have e8 := (j4 8 (by simp [haf])).2.1 rfl
          replace j4 := Lib.hid j4
          clear haf hfb jn j8
          obtain ⟨ua, uc, z1, z2⟩ := e8
          rw [HLIT.out]
          go_simp
          exact hK.out _ _ (NY.next (wv := wv) (vs := vs) 9 (by omega) (x := .agg #[.slice ua oN.length uc]) (by rw [HLIT.out]; simp only [upv, z1, Nat.reduceBEq, cond_true, cond_false]) h8 (by rw [HG.out]; exact j4.out) hM.out (by rw [HG.out]; exact fun _ _ h => h) (by rw [HG.out]; exact ⟨fun h => absurd h (by decide), fun h => absurd h (by decide), fun _ => ⟨ua, uc, rfl, z2⟩, fun h7 => fun h8 => fun h9 => absurd rfl h9⟩))
        · intro bf ac wv hfb haf hJ K' hK
          obtain ⟨vs, rfl, j8, jn⟩ := hJ
          replace hK := Lib.hid hK
          by_cases h8t : bf 11 = true
          · obtain ⟨ha, ⟨ua, uc, z1⟩, hF⟩ := j8 h8t
            clear haf hfb jn j8
            have HA := Lib.hid ha
            have HF := Lib.hid hF
            clear ha hF
            rw [HLIT.out]
            go_simp
            exact hK.out _ _ (NY.late (i := 10) (vs := vs) (by omega) (x := .int .i64 0) (by rw [HLIT.out]; simp only [upv, z1, Nat.reduceBEq, cond_true, cond_false]) h8t HA.out ⟨ua, uc, z1⟩ HF.out)
          have h8 : bf 11 = false := Bool.eq_false_iff.2 h8t
          obtain ⟨hM, j4⟩ := jn h8
          replace hM := Lib.hid hM
          rw [HG.out] at j4
          simp [Region.binds] at haf
          have e8 := (j4 8 (by simp [haf])).2.1 rfl
          replace j4 := Lib.hid j4
          clear haf hfb jn j8
          obtain ⟨ua, uc, z1, z2⟩ := e8
          rw [HLIT.out]
          go_simp
          exact hK.out _ _ (NY.next (wv := wv) (vs := vs) 10 (by omega) (x := .int .i64 0) (by rw [HLIT.out]; simp only [upv, z1, Nat.reduceBEq, cond_true, cond_false]) h8 (by rw [HG.out]; exact j4.out) hM.out (by rw [HG.out]; exact fun _ _ h => h) (by rw [HG.out]; exact ⟨fun h => absurd h (by decide), fun h => absurd h (by decide), fun h => absurd h (by decide), fun _ _ _ => E10.out.symm⟩))
        · intro bf ac wv hfb haf hJ K' hK
          obtain ⟨vs, rfl, j8, jn⟩ := hJ
          replace hK := Lib.hid hK
          obtain ⟨hM, j4⟩ := jn hfb
          replace hM := Lib.hid hM
          rw [HG.out] at j4
          simp [Region.binds] at haf
          have HA := Lib.hid (all10 (bf := bf) (by simp [haf]) (by simp [haf]) (by simp [haf]) (by simp [haf]) (by simp [haf]) (by simp [haf]) (by simp [haf]) (by simp [haf]) (by simp [haf]) (by simp [haf]))
          have e8 := (j4 8 (by simp [haf])).2.1 rfl
          have e9 := (j4 9 (by simp [haf])).2.2.1 rfl
          clear haf hfb jn j8
          have Z8 := Lib.hid (show ∃ ua uc, vs 8 = .tuple #[.agg #[.slice ua oN.length uc], .int .i64 0] from by
            obtain ⟨ua, uc, q1, -⟩ := e8
            exact ⟨ua, uc, q1⟩)
          clear e8
          obtain ⟨ua, uc, z1, z2⟩ := e9
          clear j4
          have Z2 := Lib.hid z2
          clear z2
          have C3 := HC1.out.step hM.out
          have s0 := C3.c 0 rfl
          have s1 := C3.f 0 (by simp)
          have s2 := C3.2.2
          have HC3 := Lib.hid C3
          clear C3
          rw [HLIT.out]
          go_simp
          exact hK.out _ _ (NY.last (vs := vs) (by rw [HLIT.out]; simp only [z1]) HA.out Z8.out ⟨⟨ua, uc, HC3.out.set 0 (by simp) _ rfl, row_other Z2.out (by omega)⟩, (KS1.out.step hM.out).other (by omega) (by omega), (KS2.out.step hM.out).other (by omega) (by omega), (KS3.out.step hM.out).other (by omega) (by omega), (keep2 hM.out HBr.out).setCell (by have := HSZ2.out; show w.heap.size ≤ u1.heap.size; omega) _, by have := hM.out.size; simp; omega⟩)
      · intro bf ac wv hall hJ
        obtain ⟨vs, rfl, j8, -⟩ := hJ
        have hF := (j8 (hall 11 (by decide))).2.2
        clear hall j8
        obtain ⟨f0, f1, f2, f3, f4, f5⟩ := hF
        rw [HLIT.out]
        dsimp only
        replace KS0 := Lib.hid f0
        replace KS1 := Lib.hid f1
        replace KS2 := Lib.hid f2
        replace KS3 := Lib.hid f3
        have HBn := Lib.hid f4
        replace HBr := HBn
        clear HBn f0 f1 f2 f3 f4 HC1 HC2 hW4
        have HZ9 := Lib.hid f5
        clear f5
        obtain ⟨us, hus⟩ : ∃ us, us = vs := ⟨_, rfl⟩
        rw [← hus]
        clear hus
        replace hr4 : u1.heap.size + 4 ≤ wv.heap.size := HZ9.out
        clear HZ9
        go_wp2_with fail
        obtain ⟨wq, hwq⟩ : ∃ wq, wv = wq := ⟨_, rfl⟩
        rw [hwq] at KS0 KS1 KS2 KS3 HBr hr4 ⊢
        clear hwq
        obtain ⟨kz, hkz⟩ : ∃ kz, l.length - 1 - k = kz := ⟨_, rfl⟩
        rw [hkz] at Hz
        have bw1 : wrap64 ((l.length : Int) - 1) = (l.length : Int) - 1 := IntWalk.wrap64_in _ (by omega)
        have bw2 : wrap64 ((l.length : Int) - 1 - (k : Int)) = (kz : Int) := by rw [IntWalk.wrap64_in _ (by omega)]; omega
        have bw3 : IntKind.i64.wrap ((l.length : Int) - 1) = (l.length : Int) - 1 := IntWalk.i64_in _ (by omega)
        have bw4 : IntKind.i64.wrap ((l.length : Int) - 1 - (k : Int)) = (kz : Int) := by rw [IntWalk.i64_in _ (by omega)]; omega
        obtain ⟨xa, xc, hx1, hx2⟩ := KS1.out
        have HC1 := Lib.hid hx1
        have HC2 := Lib.hid hx2
        clear hx1 hx2
        have hW4 := hr4
        obtain ⟨lit, hlit⟩ : ∃ lit : (Nat → Value) → Act, lit = fun vs => { tmps := List.toArray (Value.slice (some { block := tb, off := tf }) l.length tc :: Value.slice pa q.length pc :: undef :: undef :: Value.bool false :: Value.bool true :: Value.pointer (some { block := u1.heap.size, off := 0 }) :: Value.pointer (some { block := u1.heap.size + 1, off := 0 }) :: Value.pointer (some { block := u1.heap.size + 1 + 1, off := 0 }) :: Value.pointer (some { block := u1.heap.size + 1 + 1 + 1, off := 0 }) :: Value.int IntKind.i64 (k : Int) :: undef :: undef :: Value.bool true :: Value.slice (some { block := tb, off := tf }) l.length tc :: Value.int IntKind.i64 (l.length : Int) :: Value.bool false :: undef :: Value.agg #[Value.slice none 0 0] :: Value.agg #[Value.slice none 0 0] :: Value.agg #[Value.slice none 0 0] :: Value.agg #[Value.slice none 0 0] :: Value.int IntKind.i64 (k : Int) :: Value.slice (some { block := tb, off := tf }) l.length tc :: Value.int IntKind.i64 (l.length : Int) :: Value.bool true :: u26 :: u27 :: us 8 :: us 0 :: us 1 :: us 2 :: us 3 :: us 4 :: us 5 :: us 6 :: us 7 :: us 9 :: us 10 :: vs 12 :: vs 0 :: vs 1 :: vs 2 :: vs 3 :: vs 4 :: vs 5 :: vs 6 :: vs 7 :: vs 8 :: vs 9 :: vs 10 :: vs 11 :: vs 13 :: vs 14 :: u54 :: u55 :: u56 :: u57 :: u58 :: u59 :: u60 :: u61 :: u62 :: u63 :: u64 :: u65 :: u66 :: u67 :: u68 :: u69 :: u70 :: u71 :: u72 :: u73 :: u74 :: u75 :: u76 :: u77 :: u78 :: u79 :: u80 :: u81 :: u82 :: u83 :: u84 :: u85 :: undef :: undef :: undef :: undef :: undef :: undef :: undef :: undef :: undef :: undef :: undef :: undef :: undef :: undef :: undef :: undef :: undef :: undef :: undef :: undef :: undef :: undef :: undef :: undef :: undef :: []), defers := [] } := ⟨_, rfl⟩
        have HLIT := Lib.hid hlit
        clear hlit
        obtain ⟨val, hval⟩ : ∃ val : List Value, val = [.agg #[.slice xa bL.length xc], .slice (some ⟨tb, tf, none⟩) l.length tc, .slice (some ⟨tb, tf, none⟩) l.length tc, .int .i64 (l.length : Int), .int .i64 ((l.length : Int) - 1), .int .i64 (k : Int), .int .i64 (kz : Int), .pointer (some ⟨tb, tf + kz, none⟩), .int .u32 z, .int .i64 z, .int .i64 yz, undef, undef, undef, .int .i64 0, undef] := ⟨_, rfl⟩
        have E0 := Lib.hid (show val.getD 0 undef = .agg #[.slice xa bL.length xc] by rw [hval]; rfl)
        have E1 := Lib.hid (show val.getD 1 undef = .slice (some ⟨tb, tf, none⟩) l.length tc by rw [hval]; rfl)
        have E2 := Lib.hid (show val.getD 2 undef = .slice (some ⟨tb, tf, none⟩) l.length tc by rw [hval]; rfl)
        have E3 := Lib.hid (show val.getD 3 undef = .int .i64 (l.length : Int) by rw [hval]; rfl)
        have E4 := Lib.hid (show val.getD 4 undef = .int .i64 ((l.length : Int) - 1) by rw [hval]; rfl)
        have E5 := Lib.hid (show val.getD 5 undef = .int .i64 (k : Int) by rw [hval]; rfl)
        have E6 := Lib.hid (show val.getD 6 undef = .int .i64 (kz : Int) by rw [hval]; rfl)
        have E7 := Lib.hid (show val.getD 7 undef = .pointer (some ⟨tb, tf + kz, none⟩) by rw [hval]; rfl)
        have E8 := Lib.hid (show val.getD 8 undef = .int .u32 z by rw [hval]; rfl)
        have E9 := Lib.hid (show val.getD 9 undef = .int .i64 z by rw [hval]; rfl)
        have E10 := Lib.hid (show val.getD 10 undef = .int .i64 yz by rw [hval]; rfl)
        have E14 := Lib.hid (show val.getD 14 undef = .int .i64 0 by rw [hval]; rfl)
        clear hval
        obtain ⟨G, hG0⟩ : ∃ G : Nat → Value → World → Prop, G = (fun i v w => (i = 11 → ∃ ua uc, v = .tuple #[.agg #[.slice ua bN.length uc], .int .i64 0] ∧ w.ownsRow (u1.heap.size + 4) 3 1 (.slice ua bN.length uc) bN.length (bN.map (Value.int .i64))) ∧ (i = 12 → ∃ ua uc, v = .tuple #[.agg #[.slice ua bN.length uc], .int .i64 0] ∧ w.ownsRow (u1.heap.size + 4) 3 1 (.slice ua bN.length uc) bN.length (bN.map (Value.int .i64))) ∧ (i = 13 → ∃ ua uc, v = .agg #[.slice ua bN.length uc] ∧ w.ownsRow (u1.heap.size + 4) 3 1 (.slice ua bN.length uc) bN.length (bN.map (Value.int .i64))) ∧ (i ≠ 11 → i ≠ 12 → i ≠ 13 → v = val.getD i undef)) := ⟨_, rfl⟩
        have HG := Lib.hid hG0
        clear hG0
        refine region_inv (NY 15 12 lit wq G (fun v => ∃ ua uc, v = .tuple #[.agg #[.slice ua bN.length uc], .int .i64 0]) (fun vs wv => St (u1.heap.size + 4) wv (u1.heap.size + 1) bN ∧ St (u1.heap.size + 4) wv (u1.heap.size) oN ∧ St (u1.heap.size + 4) wv (u1.heap.size + 1 + 1) lL ∧ St (u1.heap.size + 4) wv (u1.heap.size + 1 + 1 + 1) rL ∧ Below w.heap.size w wv ∧ u1.heap.size + 4 ≤ wv.heap.size)) (by kernel_rfl) (by decide +kernel) ?_ ?_ ?_
        · exact ⟨fun i => ([u40, u41, u42, u43, u44, u45, u46, u47, u48, u49, u50, u51, u39, u52, u53, undef] : List Value).getD i undef, (by rw [HLIT.out]; rfl), fun h => (by cases h), fun _ => ⟨below_drew _ _, fun i h => by cases h⟩⟩
        · refine ⟨?_, ?_, ?_, ?_, ?_, ?_, ?_, ?_, ?_, ?_, ?_, ?_, ?_, ?_, ?_, ?_, trivial⟩
          · intro bf ac wv hfb haf hJ K' hK
            obtain ⟨vs, rfl, j8, jn⟩ := hJ
            replace hK := Lib.hid hK
            have h8 : bf 15 = false := Bool.eq_false_iff.2 fun h => absurd (((j8 h).1 0 (by omega)).symm.trans hfb) (by simp)
            obtain ⟨hM, j4⟩ := jn h8
            replace hM := Lib.hid hM
            rw [HG.out] at j4
            replace j4 := Lib.hid j4
            clear haf hfb jn j8
            have K1 := HC1.out.step hM.out
            have x0 := K1.c 0 rfl
            have xz := K1.2.2
            clear K1
            rw [HLIT.out]
            go_simp
            exact hK.out _ _ (NY.next (wv := wv) (vs := vs) 0 (by omega) (x := .agg #[.slice xa bL.length xc]) (by rw [HLIT.out]; rfl) h8 (by rw [HG.out]; exact j4.out) hM.out (by rw [HG.out]; exact fun _ _ h => h) (by rw [HG.out]; exact ⟨fun h => absurd h (by decide), fun h => absurd h (by decide), fun h => absurd h (by decide), fun _ _ _ => E0.out.symm⟩))
          · intro bf ac wv hfb haf hJ K' hK
            obtain ⟨vs, rfl, j8, jn⟩ := hJ
            replace hK := Lib.hid hK
            have h8 : bf 15 = false := Bool.eq_false_iff.2 fun h => absurd (((j8 h).1 1 (by omega)).symm.trans hfb) (by simp)
            obtain ⟨hM, j4⟩ := jn h8
            replace hM := Lib.hid hM
            rw [HG.out] at j4
            replace j4 := Lib.hid j4
            clear haf hfb jn j8
            rw [HLIT.out]
            go_simp
            exact hK.out _ _ (NY.next (wv := wv) (vs := vs) 1 (by omega) (x := .slice (some ⟨tb, tf, none⟩) l.length tc) (by rw [HLIT.out]; rfl) h8 (by rw [HG.out]; exact j4.out) hM.out (by rw [HG.out]; exact fun _ _ h => h) (by rw [HG.out]; exact ⟨fun h => absurd h (by decide), fun h => absurd h (by decide), fun h => absurd h (by decide), fun _ _ _ => E1.out.symm⟩))
          · intro bf ac wv hfb haf hJ K' hK
            obtain ⟨vs, rfl, j8, jn⟩ := hJ
            replace hK := Lib.hid hK
            have h8 : bf 15 = false := Bool.eq_false_iff.2 fun h => absurd (((j8 h).1 2 (by omega)).symm.trans hfb) (by simp)
            obtain ⟨hM, j4⟩ := jn h8
            replace hM := Lib.hid hM
            rw [HG.out] at j4
            replace j4 := Lib.hid j4
            clear haf hfb jn j8
            rw [HLIT.out]
            go_simp
            exact hK.out _ _ (NY.next (wv := wv) (vs := vs) 2 (by omega) (x := .slice (some ⟨tb, tf, none⟩) l.length tc) (by rw [HLIT.out]; rfl) h8 (by rw [HG.out]; exact j4.out) hM.out (by rw [HG.out]; exact fun _ _ h => h) (by rw [HG.out]; exact ⟨fun h => absurd h (by decide), fun h => absurd h (by decide), fun h => absurd h (by decide), fun _ _ _ => E2.out.symm⟩))
          · intro bf ac wv hfb haf hJ K' hK
            obtain ⟨vs, rfl, j8, jn⟩ := hJ
            replace hK := Lib.hid hK
            have h8 : bf 15 = false := Bool.eq_false_iff.2 fun h => absurd (((j8 h).1 3 (by omega)).symm.trans hfb) (by simp)
            obtain ⟨hM, j4⟩ := jn h8
            replace hM := Lib.hid hM
            rw [HG.out] at j4
            simp [Region.binds] at haf
            have e2 := ((j4 2 (by simp [haf])).2.2.2 (by decide) (by decide) (by decide)).trans E2.out
            replace j4 := Lib.hid j4
            clear haf hfb jn j8
            rw [HLIT.out]
            go_simp
            exact hK.out _ _ (NY.next (wv := wv) (vs := vs) 3 (by omega) (x := .int .i64 (l.length : Int)) (by rw [HLIT.out]; simp only [upv, e2, Nat.reduceBEq, cond_true, cond_false]) h8 (by rw [HG.out]; exact j4.out) hM.out (by rw [HG.out]; exact fun _ _ h => h) (by rw [HG.out]; exact ⟨fun h => absurd h (by decide), fun h => absurd h (by decide), fun h => absurd h (by decide), fun _ _ _ => E3.out.symm⟩))
          · intro bf ac wv hfb haf hJ K' hK
            obtain ⟨vs, rfl, j8, jn⟩ := hJ
            replace hK := Lib.hid hK
            have h8 : bf 15 = false := Bool.eq_false_iff.2 fun h => absurd (((j8 h).1 4 (by omega)).symm.trans hfb) (by simp)
            obtain ⟨hM, j4⟩ := jn h8
            replace hM := Lib.hid hM
            rw [HG.out] at j4
            simp [Region.binds] at haf
            have e3 := ((j4 3 (by simp [haf])).2.2.2 (by decide) (by decide) (by decide)).trans E3.out
            replace j4 := Lib.hid j4
            clear haf hfb jn j8
            rw [HLIT.out]
            go_simp
            exact hK.out _ _ (NY.next (wv := wv) (vs := vs) 4 (by omega) (x := .int .i64 ((l.length : Int) - 1)) (by rw [HLIT.out]; simp only [upv, e3, bw1, bw3, Nat.reduceBEq, cond_true, cond_false]) h8 (by rw [HG.out]; exact j4.out) hM.out (by rw [HG.out]; exact fun _ _ h => h) (by rw [HG.out]; exact ⟨fun h => absurd h (by decide), fun h => absurd h (by decide), fun h => absurd h (by decide), fun _ _ _ => E4.out.symm⟩))
          · intro bf ac wv hfb haf hJ K' hK
            obtain ⟨vs, rfl, j8, jn⟩ := hJ
            replace hK := Lib.hid hK
            have h8 : bf 15 = false := Bool.eq_false_iff.2 fun h => absurd (((j8 h).1 5 (by omega)).symm.trans hfb) (by simp)
            obtain ⟨hM, j4⟩ := jn h8
            replace hM := Lib.hid hM
            rw [HG.out] at j4
            replace j4 := Lib.hid j4
            clear haf hfb jn j8
            rw [HLIT.out]
            go_simp
            exact hK.out _ _ (NY.next (wv := wv) (vs := vs) 5 (by omega) (x := .int .i64 (k : Int)) (by rw [HLIT.out]; rfl) h8 (by rw [HG.out]; exact j4.out) hM.out (by rw [HG.out]; exact fun _ _ h => h) (by rw [HG.out]; exact ⟨fun h => absurd h (by decide), fun h => absurd h (by decide), fun h => absurd h (by decide), fun _ _ _ => E5.out.symm⟩))
          · intro bf ac wv hfb haf hJ K' hK
            obtain ⟨vs, rfl, j8, jn⟩ := hJ
            replace hK := Lib.hid hK
            have h8 : bf 15 = false := Bool.eq_false_iff.2 fun h => absurd (((j8 h).1 6 (by omega)).symm.trans hfb) (by simp)
            obtain ⟨hM, j4⟩ := jn h8
            replace hM := Lib.hid hM
            rw [HG.out] at j4
            simp [Region.binds] at haf
            have e4 := ((j4 4 (by simp [haf])).2.2.2 (by decide) (by decide) (by decide)).trans E4.out
            have e5 := ((j4 5 (by simp [haf])).2.2.2 (by decide) (by decide) (by decide)).trans E5.out
            replace j4 := Lib.hid j4
            clear haf hfb jn j8
            rw [HLIT.out]
            go_simp
            exact hK.out _ _ (NY.next (wv := wv) (vs := vs) 6 (by omega) (x := .int .i64 (kz : Int)) (by rw [HLIT.out]; simp only [upv, e4, e5, bw2, bw4, Nat.reduceBEq, cond_true, cond_false]) h8 (by rw [HG.out]; exact j4.out) hM.out (by rw [HG.out]; exact fun _ _ h => h) (by rw [HG.out]; exact ⟨fun h => absurd h (by decide), fun h => absurd h (by decide), fun h => absurd h (by decide), fun _ _ _ => E6.out.symm⟩))
          · intro bf ac wv hfb haf hJ K' hK
            obtain ⟨vs, rfl, j8, jn⟩ := hJ
            replace hK := Lib.hid hK
            have h8 : bf 15 = false := Bool.eq_false_iff.2 fun h => absurd (((j8 h).1 7 (by omega)).symm.trans hfb) (by simp)
            obtain ⟨hM, j4⟩ := jn h8
            replace hM := Lib.hid hM
            rw [HG.out] at j4
            simp [Region.binds] at haf
            have e1 := ((j4 1 (by simp [haf])).2.2.2 (by decide) (by decide) (by decide)).trans E1.out
            have e6 := ((j4 6 (by simp [haf])).2.2.2 (by decide) (by decide) (by decide)).trans E6.out
            replace j4 := Lib.hid j4
            clear haf hfb jn j8
            have y1 : (kz : Int) < (l.length : Int) := by omega
            have y2 : (0 : Int) ≤ (kz : Int) := by omega
            rw [HLIT.out]
            go_simp
            exact hK.out _ _ (NY.next (wv := wv) (vs := vs) 7 (by omega) (x := .pointer (some ⟨tb, tf + kz, none⟩)) (by rw [HLIT.out]; simp only [upv, e1, e6, Nat.reduceBEq, cond_true, cond_false]) h8 (by rw [HG.out]; exact j4.out) hM.out (by rw [HG.out]; exact fun _ _ h => h) (by rw [HG.out]; exact ⟨fun h => absurd h (by decide), fun h => absurd h (by decide), fun h => absurd h (by decide), fun _ _ _ => E7.out.symm⟩))
          · intro bf ac wv hfb haf hJ K' hK
            obtain ⟨vs, rfl, j8, jn⟩ := hJ
            replace hK := Lib.hid hK
            have h8 : bf 15 = false := Bool.eq_false_iff.2 fun h => absurd (((j8 h).1 8 (by omega)).symm.trans hfb) (by simp)
            obtain ⟨hM, j4⟩ := jn h8
            replace hM := Lib.hid hM
            rw [HG.out] at j4
            simp [Region.binds] at haf
            have e7 := ((j4 7 (by simp [haf])).2.2.2 (by decide) (by decide) (by decide)).trans E7.out
            replace j4 := Lib.hid j4
            clear haf hfb jn j8
            have xg := keep1 (keep2 hM.out HBr.out) Hz.out
            have xgz := World.block_lt_of_cell? _ _ xg
            have xgz : tb < wv.heap.size := xgz
            rw [HLIT.out]
            go_simp
            exact hK.out _ _ (NY.next (wv := wv) (vs := vs) 8 (by omega) (x := .int .u32 z) (by rw [HLIT.out]; simp only [upv, e7, Nat.reduceBEq, cond_true, cond_false]) h8 (by rw [HG.out]; exact j4.out) hM.out (by rw [HG.out]; exact fun _ _ h => h) (by rw [HG.out]; exact ⟨fun h => absurd h (by decide), fun h => absurd h (by decide), fun h => absurd h (by decide), fun _ _ _ => E8.out.symm⟩))
          · intro bf ac wv hfb haf hJ K' hK
            obtain ⟨vs, rfl, j8, jn⟩ := hJ
            replace hK := Lib.hid hK
            have h8 : bf 15 = false := Bool.eq_false_iff.2 fun h => absurd (((j8 h).1 9 (by omega)).symm.trans hfb) (by simp)
            obtain ⟨hM, j4⟩ := jn h8
            replace hM := Lib.hid hM
            rw [HG.out] at j4
            simp [Region.binds] at haf
            have e8 := ((j4 8 (by simp [haf])).2.2.2 (by decide) (by decide) (by decide)).trans E8.out
            replace j4 := Lib.hid j4
            clear haf hfb jn j8
            have cz := Hcz.out
            rw [HLIT.out]
            go_simp
            exact hK.out _ _ (NY.next (wv := wv) (vs := vs) 9 (by omega) (x := .int .i64 z) (by rw [HLIT.out]; simp only [upv, e8, cz, Nat.reduceBEq, cond_true, cond_false]) h8 (by rw [HG.out]; exact j4.out) hM.out (by rw [HG.out]; exact fun _ _ h => h) (by rw [HG.out]; exact ⟨fun h => absurd h (by decide), fun h => absurd h (by decide), fun h => absurd h (by decide), fun _ _ _ => E9.out.symm⟩))
          · intro bf ac wv hfb haf hJ K' hK
            obtain ⟨vs, rfl, j8, jn⟩ := hJ
            replace hK := Lib.hid hK
            have h8 : bf 15 = false := Bool.eq_false_iff.2 fun h => absurd (((j8 h).1 10 (by omega)).symm.trans hfb) (by simp)
            obtain ⟨hM, j4⟩ := jn h8
            replace hM := Lib.hid hM
            rw [HG.out] at j4
            simp [Region.binds] at haf
            have e9 := ((j4 9 (by simp [haf])).2.2.2 (by decide) (by decide) (by decide)).trans E9.out
            replace j4 := Lib.hid j4
            clear haf hfb jn j8
            have tz := Htz.out
            have tzw := Hwz.out
            have tzv := Hvz.out
            rw [HLIT.out]
            go_simp
            exact hK.out _ _ (NY.next (wv := wv) (vs := vs) 10 (by omega) (x := .int .i64 yz) (by rw [HLIT.out]; simp only [upv, e9, tz, tzw, tzv, Nat.reduceBEq, cond_true, cond_false]) h8 (by rw [HG.out]; exact j4.out) hM.out (by rw [HG.out]; exact fun _ _ h => h) (by rw [HG.out]; exact ⟨fun h => absurd h (by decide), fun h => absurd h (by decide), fun h => absurd h (by decide), fun _ _ _ => E10.out.symm⟩))
          · intro bf ac wv hfb haf hJ K' hK
            obtain ⟨vs, rfl, j8, jn⟩ := hJ
            replace hK := Lib.hid hK
            have h8 : bf 15 = false := Bool.eq_false_iff.2 fun h => absurd (((j8 h).1 11 (by omega)).symm.trans hfb) (by simp)
            obtain ⟨hM, j4⟩ := jn h8
            replace hM := Lib.hid hM
            rw [HG.out] at j4
            simp [Region.binds] at haf
            have e0 := ((j4 0 (by simp [haf])).2.2.2 (by decide) (by decide) (by decide)).trans E0.out
            have e10 := ((j4 10 (by simp [haf])).2.2.2 (by decide) (by decide) (by decide)).trans E10.out
            replace j4 := Lib.hid j4
            clear haf hfb jn j8
            rw [HLIT.out]
            go_simp
            go_at_call 11
            refine (add_any _ bL yz _ (tg_of_row (row_step HC2.out hM.out))).mono ?_
            rintro e w4 ⟨⟨u, rfl, hu⟩, b4⟩
            rw [Lb.out] at hu
            rw [Eb.out]
            obtain ⟨ua, uc, rfl⟩ := row_slice hu
            exact hK.out _ _ (NY.next (wv := wv) (vs := vs) 11 (by omega) (x := .tuple #[.agg #[.slice ua bN.length uc], .int .i64 0]) (by rw [HLIT.out]; simp only [upv, e0, e10, Nat.reduceBEq, cond_true, cond_false]) h8 (by rw [HG.out]; exact j4.out) (keep2 b4 hM.out) (by rw [HG.out]; exact fun k v h => ⟨fun z => (by
              obtain ⟨ua, uc, z1, z2⟩ := h.1 z
              exact ⟨ua, uc, z1, row_step z2 b4⟩), fun z => (by
              obtain ⟨ua, uc, z1, z2⟩ := h.2.1 z
              exact ⟨ua, uc, z1, row_step z2 b4⟩), fun z => (by
              obtain ⟨ua, uc, z1, z2⟩ := h.2.2.1 z
              exact ⟨ua, uc, z1, row_step z2 b4⟩), h.2.2.2⟩) (by rw [HG.out]; exact ⟨fun _ => ⟨ua, uc, rfl, row_base hu (by have := hM.out.size; omega)⟩, fun h => absurd h (by decide), fun h => absurd h (by decide), fun h11 => absurd rfl h11⟩))
          · intro bf ac wv hfb haf hJ K' hK
            obtain ⟨vs, rfl, j8, jn⟩ := hJ
            replace hK := Lib.hid hK
            have h8 : bf 15 = false := Bool.eq_false_iff.2 fun h => absurd (((j8 h).1 12 (by omega)).symm.trans hfb) (by simp)
            obtain ⟨hM, j4⟩ := jn h8
            replace hM := Lib.hid hM
            rw [HG.out] at j4
            simp [Region.binds] at haf
            have e11 := (j4 11 (by simp [haf])).1 rfl
            replace j4 := Lib.hid j4
            clear haf hfb jn j8
            obtain ⟨ua, uc, z1, z2⟩ := e11
            rw [HLIT.out]
            go_simp
            exact hK.out _ _ (NY.next (wv := wv) (vs := vs) 12 (by omega) (x := .tuple #[.agg #[.slice ua bN.length uc], .int .i64 0]) (by rw [HLIT.out]; simp only [upv, z1, Nat.reduceBEq, cond_true, cond_false]) h8 (by rw [HG.out]; exact j4.out) hM.out (by rw [HG.out]; exact fun _ _ h => h) (by rw [HG.out]; exact ⟨fun h => absurd h (by decide), fun _ => ⟨ua, uc, rfl, z2⟩, fun h => absurd h (by decide), fun h11 => fun h12 => absurd rfl h12⟩))
          · intro bf ac wv hfb haf hJ K' hK
            obtain ⟨vs, rfl, j8, jn⟩ := hJ
            replace hK := Lib.hid hK
            have h8 : bf 15 = false := Bool.eq_false_iff.2 fun h => absurd (((j8 h).1 13 (by omega)).symm.trans hfb) (by simp)
            obtain ⟨hM, j4⟩ := jn h8
            replace hM := Lib.hid hM
            rw [HG.out] at j4
            simp [Region.binds] at haf
            have e12 := (j4 12 (by simp [haf])).2.1 rfl
            replace j4 := Lib.hid j4
            clear haf hfb jn j8
            obtain ⟨ua, uc, z1, z2⟩ := e12
            rw [HLIT.out]
            go_simp
            exact hK.out _ _ (NY.next (wv := wv) (vs := vs) 13 (by omega) (x := .agg #[.slice ua bN.length uc]) (by rw [HLIT.out]; simp only [upv, z1, Nat.reduceBEq, cond_true, cond_false]) h8 (by rw [HG.out]; exact j4.out) hM.out (by rw [HG.out]; exact fun _ _ h => h) (by rw [HG.out]; exact ⟨fun h => absurd h (by decide), fun h => absurd h (by decide), fun _ => ⟨ua, uc, rfl, z2⟩, fun h11 => fun h12 => fun h13 => absurd rfl h13⟩))
          · intro bf ac wv hfb haf hJ K' hK
            obtain ⟨vs, rfl, j8, jn⟩ := hJ
            replace hK := Lib.hid hK
            by_cases h8t : bf 15 = true
            · obtain ⟨ha, ⟨ua, uc, z1⟩, hF⟩ := j8 h8t
              clear haf hfb jn j8
              have HA := Lib.hid ha
              have HF := Lib.hid hF
              clear ha hF
              rw [HLIT.out]
              go_simp
              exact hK.out _ _ (NY.late (i := 14) (vs := vs) (by omega) (x := .int .i64 0) (by rw [HLIT.out]; simp only [upv, z1, Nat.reduceBEq, cond_true, cond_false]) h8t HA.out ⟨ua, uc, z1⟩ HF.out)
            have h8 : bf 15 = false := Bool.eq_false_iff.2 h8t
            obtain ⟨hM, j4⟩ := jn h8
            replace hM := Lib.hid hM
            rw [HG.out] at j4
            simp [Region.binds] at haf
            have e12 := (j4 12 (by simp [haf])).2.1 rfl
            replace j4 := Lib.hid j4
            clear haf hfb jn j8
            obtain ⟨ua, uc, z1, z2⟩ := e12
            rw [HLIT.out]
            go_simp
            exact hK.out _ _ (NY.next (wv := wv) (vs := vs) 14 (by omega) (x := .int .i64 0) (by rw [HLIT.out]; simp only [upv, z1, Nat.reduceBEq, cond_true, cond_false]) h8 (by rw [HG.out]; exact j4.out) hM.out (by rw [HG.out]; exact fun _ _ h => h) (by rw [HG.out]; exact ⟨fun h => absurd h (by decide), fun h => absurd h (by decide), fun h => absurd h (by decide), fun _ _ _ => E14.out.symm⟩))
          · intro bf ac wv hfb haf hJ K' hK
            obtain ⟨vs, rfl, j8, jn⟩ := hJ
            replace hK := Lib.hid hK
            obtain ⟨hM, j4⟩ := jn hfb
            replace hM := Lib.hid hM
            rw [HG.out] at j4
            simp [Region.binds] at haf
            have HA := Lib.hid (all14 (bf := bf) (by simp [haf]) (by simp [haf]) (by simp [haf]) (by simp [haf]) (by simp [haf]) (by simp [haf]) (by simp [haf]) (by simp [haf]) (by simp [haf]) (by simp [haf]) (by simp [haf]) (by simp [haf]) (by simp [haf]) (by simp [haf]))
            have e12 := (j4 12 (by simp [haf])).2.1 rfl
            have e13 := (j4 13 (by simp [haf])).2.2.1 rfl
            clear haf hfb jn j8
            have Z8 := Lib.hid (show ∃ ua uc, vs 12 = .tuple #[.agg #[.slice ua bN.length uc], .int .i64 0] from by
              obtain ⟨ua, uc, q1, -⟩ := e12
              exact ⟨ua, uc, q1⟩)
            clear e12
            obtain ⟨ua, uc, z1, z2⟩ := e13
            clear j4
            have Z2 := Lib.hid z2
            clear z2
            have C3 := HC1.out.step hM.out
            have s0 := C3.c 0 rfl
            have s1 := C3.f 0 (by simp)
            have s2 := C3.2.2
            have HC3 := Lib.hid C3
            clear C3
            rw [HLIT.out]
            go_simp
            exact hK.out _ _ (NY.last (vs := vs) (by rw [HLIT.out]; simp only [z1]) HA.out Z8.out ⟨⟨ua, uc, HC3.out.set 0 (by simp) _ rfl, row_other Z2.out (by omega)⟩, (KS0.out.step hM.out).other (by omega) (by omega), (KS2.out.step hM.out).other (by omega) (by omega), (KS3.out.step hM.out).other (by omega) (by omega), (keep2 hM.out HBr.out).setCell (by have := HSZ2.out; show w.heap.size ≤ u1.heap.size + 1; omega) _, by have := hM.out.size; simp; omega⟩)
        · intro bf ac wv hall hJ
          obtain ⟨vs, rfl, j8, -⟩ := hJ
          have hF := (j8 (hall 15 (by decide))).2.2
          clear hall j8
          obtain ⟨f0, f1, f2, f3, f4, f5⟩ := hF
          rw [HLIT.out]
          dsimp only
          replace KS1 := Lib.hid f0
          replace KS0 := Lib.hid f1
          replace KS2 := Lib.hid f2
          replace KS3 := Lib.hid f3
          have HBn := Lib.hid f4
          replace HBr := HBn
          clear HBn f0 f1 f2 f3 f4 HC1 HC2 hW4
          have HZ9 := Lib.hid f5
          clear f5
          obtain ⟨ts, hts⟩ : ∃ us, us = vs := ⟨_, rfl⟩
          rw [← hts]
          clear hts
          replace hr4 : u1.heap.size + 4 ≤ wv.heap.size := HZ9.out
          clear HZ9 bw1 bw2 bw3 bw4 hkz
          obtain ⟨wp, hwp⟩ : ∃ wp, wv = wp := ⟨_, rfl⟩
          rw [hwp] at KS0 KS1 KS2 KS3 HBr hr4 ⊢
          clear hwp
          by_cases hq : k < q.length ∧ q.getD k false = true
          · obtain ⟨hq1, hq2⟩ := hq
            obtain ⟨b9, c9, hpv, -, hpc⟩ := HP.out
            obtain ⟨b8, o8, rfl, hp8⟩ := hpc (by intro h; rw [h] at hq1; simp at hq1)
            obtain ⟨rfl, rfl⟩ : pa = some ⟨b8, o8, none⟩ ∧ pc = c9 := by simpa using hpv
            have hqc := keep1 HBr.out (hp8 k true (by rw [← hq2]; simp [hq1]))
            clear hpv hpc hp8
            have hqb := World.block_lt_of_cell? _ _ hqc
            have hqb : b8 < wp.heap.size := hqb
            go_wp2_with fail
            clear hqc hqb
            obtain ⟨xa, xc, hx1, hx2⟩ := KS2.out
            have HC1 := Lib.hid hx1
            have HC2 := Lib.hid hx2
            clear hx1 hx2
            have hW4 := hr4
            obtain ⟨lit, hlit⟩ : ∃ lit : (Nat → Value) → Act, lit = fun vs => { tmps := List.toArray (Value.slice (some { block := tb, off := tf }) l.length tc :: Value.slice (some { block := b8, off := o8 }) q.length pc :: undef :: undef :: Value.bool false :: Value.bool true :: Value.pointer (some { block := u1.heap.size, off := 0 }) :: Value.pointer (some { block := u1.heap.size + 1, off := 0 }) :: Value.pointer (some { block := u1.heap.size + 1 + 1, off := 0 }) :: Value.pointer (some { block := u1.heap.size + 1 + 1 + 1, off := 0 }) :: Value.int IntKind.i64 (k : Int) :: undef :: undef :: Value.bool true :: Value.slice (some { block := tb, off := tf }) l.length tc :: Value.int IntKind.i64 (l.length : Int) :: Value.bool false :: undef :: Value.agg #[Value.slice none 0 0] :: Value.agg #[Value.slice none 0 0] :: Value.agg #[Value.slice none 0 0] :: Value.agg #[Value.slice none 0 0] :: Value.int IntKind.i64 (k : Int) :: Value.slice (some { block := tb, off := tf }) l.length tc :: Value.int IntKind.i64 (l.length : Int) :: Value.bool true :: u26 :: u27 :: us 8 :: us 0 :: us 1 :: us 2 :: us 3 :: us 4 :: us 5 :: us 6 :: us 7 :: us 9 :: us 10 :: ts 12 :: ts 0 :: ts 1 :: ts 2 :: ts 3 :: ts 4 :: ts 5 :: ts 6 :: ts 7 :: ts 8 :: ts 9 :: ts 10 :: ts 11 :: ts 13 :: ts 14 :: Value.int IntKind.i64 (k : Int) :: Value.slice (some { block := b8, off := o8 }) q.length pc :: Value.int IntKind.i64 (q.length : Int) :: Value.bool true :: Value.bool true :: Value.slice (some { block := b8, off := o8 }) q.length pc :: Value.int IntKind.i64 (k : Int) :: Value.pointer (some { block := b8, off := o8 + k }) :: Value.bool true :: Value.bool true :: vs 8 :: vs 0 :: vs 1 :: vs 2 :: vs 3 :: vs 4 :: vs 5 :: vs 6 :: vs 7 :: vs 9 :: vs 10 :: u75 :: u76 :: u77 :: u78 :: u79 :: u80 :: u81 :: u82 :: u83 :: u84 :: u85 :: undef :: undef :: undef :: undef :: undef :: undef :: undef :: undef :: undef :: undef :: undef :: undef :: undef :: undef :: undef :: undef :: undef :: undef :: undef :: undef :: undef :: undef :: undef :: undef :: undef :: []), defers := [] } := ⟨_, rfl⟩
            have HLIT := Lib.hid hlit
            clear hlit
            obtain ⟨val, hval⟩ : ∃ val : List Value, val = [.agg #[.slice xa lL.length xc], .slice (some ⟨tb, tf, none⟩) l.length tc, .int .i64 (k : Int), .pointer (some ⟨tb, tf + k, none⟩), .int .u32 x, .int .i64 x, .int .i64 y, undef, undef, undef, .int .i64 0, undef] := ⟨_, rfl⟩
            have E0 := Lib.hid (show val.getD 0 undef = .agg #[.slice xa lL.length xc] by rw [hval]; rfl)
            have E1 := Lib.hid (show val.getD 1 undef = .slice (some ⟨tb, tf, none⟩) l.length tc by rw [hval]; rfl)
            have E2 := Lib.hid (show val.getD 2 undef = .int .i64 (k : Int) by rw [hval]; rfl)
            have E3 := Lib.hid (show val.getD 3 undef = .pointer (some ⟨tb, tf + k, none⟩) by rw [hval]; rfl)
            have E4 := Lib.hid (show val.getD 4 undef = .int .u32 x by rw [hval]; rfl)
            have E5 := Lib.hid (show val.getD 5 undef = .int .i64 x by rw [hval]; rfl)
            have E6 := Lib.hid (show val.getD 6 undef = .int .i64 y by rw [hval]; rfl)
            have E10 := Lib.hid (show val.getD 10 undef = .int .i64 0 by rw [hval]; rfl)
            clear hval
            obtain ⟨G, hG0⟩ : ∃ G : Nat → Value → World → Prop, G = (fun i v w => (i = 7 → ∃ ua uc, v = .tuple #[.agg #[.slice ua lN.length uc], .int .i64 0] ∧ w.ownsRow (u1.heap.size + 4) 3 1 (.slice ua lN.length uc) lN.length (lN.map (Value.int .i64))) ∧ (i = 8 → ∃ ua uc, v = .tuple #[.agg #[.slice ua lN.length uc], .int .i64 0] ∧ w.ownsRow (u1.heap.size + 4) 3 1 (.slice ua lN.length uc) lN.length (lN.map (Value.int .i64))) ∧ (i = 9 → ∃ ua uc, v = .agg #[.slice ua lN.length uc] ∧ w.ownsRow (u1.heap.size + 4) 3 1 (.slice ua lN.length uc) lN.length (lN.map (Value.int .i64))) ∧ (i ≠ 7 → i ≠ 8 → i ≠ 9 → v = val.getD i undef)) := ⟨_, rfl⟩
            have HG := Lib.hid hG0
            clear hG0
            refine region_inv (NY 11 8 lit wp G (fun v => ∃ ua uc, v = .tuple #[.agg #[.slice ua lN.length uc], .int .i64 0]) (fun vs wv => St (u1.heap.size + 4) wv (u1.heap.size + 1 + 1) lN ∧ St (u1.heap.size + 4) wv (u1.heap.size) oN ∧ St (u1.heap.size + 4) wv (u1.heap.size + 1) bN ∧ St (u1.heap.size + 4) wv (u1.heap.size + 1 + 1 + 1) rL ∧ Below w.heap.size w wv ∧ u1.heap.size + 4 ≤ wv.heap.size)) (by kernel_rfl) (by decide +kernel) ?_ ?_ ?_
            · exact ⟨fun i => ([u65, u66, u67, u68, u69, u70, u71, u72, u64, u73, u74, undef] : List Value).getD i undef, (by rw [HLIT.out]; rfl), fun h => (by cases h), fun _ => ⟨below_drew _ _, fun i h => by cases h⟩⟩
            · refine ⟨?_, ?_, ?_, ?_, ?_, ?_, ?_, ?_, ?_, ?_, ?_, ?_, trivial⟩
              · intro bf ac wv hfb haf hJ K' hK
                obtain ⟨vs, rfl, j8, jn⟩ := hJ
                replace hK := Lib.hid hK
                have h8 : bf 11 = false := Bool.eq_false_iff.2 fun h => absurd (((j8 h).1 0 (by omega)).symm.trans hfb) (by simp)
                obtain ⟨hM, j4⟩ := jn h8
                replace hM := Lib.hid hM
                rw [HG.out] at j4
                replace j4 := Lib.hid j4
                clear haf hfb jn j8
                have K1 := HC1.out.step hM.out
                have x0 := K1.c 0 rfl
                have xz := K1.2.2
                clear K1
                rw [HLIT.out]
                go_simp
                exact hK.out _ _ (NY.next (wv := wv) (vs := vs) 0 (by omega) (x := .agg #[.slice xa lL.length xc]) (by rw [HLIT.out]; rfl) h8 (by rw [HG.out]; exact j4.out) hM.out (by rw [HG.out]; exact fun _ _ h => h) (by rw [HG.out]; exact ⟨fun h => absurd h (by decide), fun h => absurd h (by decide), fun h => absurd h (by decide), fun _ _ _ => E0.out.symm⟩))
              · intro bf ac wv hfb haf hJ K' hK
                obtain ⟨vs, rfl, j8, jn⟩ := hJ
                replace hK := Lib.hid hK
                have h8 : bf 11 = false := Bool.eq_false_iff.2 fun h => absurd (((j8 h).1 1 (by omega)).symm.trans hfb) (by simp)
                obtain ⟨hM, j4⟩ := jn h8
                replace hM := Lib.hid hM
                rw [HG.out] at j4
                replace j4 := Lib.hid j4
                clear haf hfb jn j8
                rw [HLIT.out]
                go_simp
                exact hK.out _ _ (NY.next (wv := wv) (vs := vs) 1 (by omega) (x := .slice (some ⟨tb, tf, none⟩) l.length tc) (by rw [HLIT.out]; rfl) h8 (by rw [HG.out]; exact j4.out) hM.out (by rw [HG.out]; exact fun _ _ h => h) (by rw [HG.out]; exact ⟨fun h => absurd h (by decide), fun h => absurd h (by decide), fun h => absurd h (by decide), fun _ _ _ => E1.out.symm⟩))
              · intro bf ac wv hfb haf hJ K' hK
                obtain ⟨vs, rfl, j8, jn⟩ := hJ
                replace hK := Lib.hid hK
                have h8 : bf 11 = false := Bool.eq_false_iff.2 fun h => absurd (((j8 h).1 2 (by omega)).symm.trans hfb) (by simp)
                obtain ⟨hM, j4⟩ := jn h8
                replace hM := Lib.hid hM
                rw [HG.out] at j4
                replace j4 := Lib.hid j4
                clear haf hfb jn j8
                rw [HLIT.out]
                go_simp
                exact hK.out _ _ (NY.next (wv := wv) (vs := vs) 2 (by omega) (x := .int .i64 (k : Int)) (by rw [HLIT.out]; rfl) h8 (by rw [HG.out]; exact j4.out) hM.out (by rw [HG.out]; exact fun _ _ h => h) (by rw [HG.out]; exact ⟨fun h => absurd h (by decide), fun h => absurd h (by decide), fun h => absurd h (by decide), fun _ _ _ => E2.out.symm⟩))
              · intro bf ac wv hfb haf hJ K' hK
                obtain ⟨vs, rfl, j8, jn⟩ := hJ
                replace hK := Lib.hid hK
                have h8 : bf 11 = false := Bool.eq_false_iff.2 fun h => absurd (((j8 h).1 3 (by omega)).symm.trans hfb) (by simp)
                obtain ⟨hM, j4⟩ := jn h8
                replace hM := Lib.hid hM
                rw [HG.out] at j4
                simp [Region.binds] at haf
                have e1 := ((j4 1 (by simp [haf])).2.2.2 (by decide) (by decide) (by decide)).trans E1.out
                have e2 := ((j4 2 (by simp [haf])).2.2.2 (by decide) (by decide) (by decide)).trans E2.out
                replace j4 := Lib.hid j4
                clear haf hfb jn j8
                have y1 : (k : Int) < (l.length : Int) := by omega
                have y2 : (0 : Int) ≤ (k : Int) := by omega
                rw [HLIT.out]
                go_simp
                exact hK.out _ _ (NY.next (wv := wv) (vs := vs) 3 (by omega) (x := .pointer (some ⟨tb, tf + k, none⟩)) (by rw [HLIT.out]; simp only [upv, e1, e2, Nat.reduceBEq, cond_true, cond_false]) h8 (by rw [HG.out]; exact j4.out) hM.out (by rw [HG.out]; exact fun _ _ h => h) (by rw [HG.out]; exact ⟨fun h => absurd h (by decide), fun h => absurd h (by decide), fun h => absurd h (by decide), fun _ _ _ => E3.out.symm⟩))
              · intro bf ac wv hfb haf hJ K' hK
                obtain ⟨vs, rfl, j8, jn⟩ := hJ
                replace hK := Lib.hid hK
                have h8 : bf 11 = false := Bool.eq_false_iff.2 fun h => absurd (((j8 h).1 4 (by omega)).symm.trans hfb) (by simp)
                obtain ⟨hM, j4⟩ := jn h8
                replace hM := Lib.hid hM
                rw [HG.out] at j4
                simp [Region.binds] at haf
                have e3 := ((j4 3 (by simp [haf])).2.2.2 (by decide) (by decide) (by decide)).trans E3.out
                replace j4 := Lib.hid j4
                clear haf hfb jn j8
                have xg := keep1 (keep2 hM.out HBr.out) Hx.out
                have xgz := World.block_lt_of_cell? _ _ xg
                have xgz : tb < wv.heap.size := xgz
                rw [HLIT.out]
                go_simp
                exact hK.out _ _ (NY.next (wv := wv) (vs := vs) 4 (by omega) (x := .int .u32 x) (by rw [HLIT.out]; simp only [upv, e3, Nat.reduceBEq, cond_true, cond_false]) h8 (by rw [HG.out]; exact j4.out) hM.out (by rw [HG.out]; exact fun _ _ h => h) (by rw [HG.out]; exact ⟨fun h => absurd h (by decide), fun h => absurd h (by decide), fun h => absurd h (by decide), fun _ _ _ => E4.out.symm⟩))
              · intro bf ac wv hfb haf hJ K' hK
                obtain ⟨vs, rfl, j8, jn⟩ := hJ
                replace hK := Lib.hid hK
                have h8 : bf 11 = false := Bool.eq_false_iff.2 fun h => absurd (((j8 h).1 5 (by omega)).symm.trans hfb) (by simp)
                obtain ⟨hM, j4⟩ := jn h8
                replace hM := Lib.hid hM
                rw [HG.out] at j4
                simp [Region.binds] at haf
                have e4 := ((j4 4 (by simp [haf])).2.2.2 (by decide) (by decide) (by decide)).trans E4.out
                replace j4 := Lib.hid j4
                clear haf hfb jn j8
                have cx := Hcx.out
                rw [HLIT.out]
                go_simp
                exact hK.out _ _ (NY.next (wv := wv) (vs := vs) 5 (by omega) (x := .int .i64 x) (by rw [HLIT.out]; simp only [upv, e4, cx, Nat.reduceBEq, cond_true, cond_false]) h8 (by rw [HG.out]; exact j4.out) hM.out (by rw [HG.out]; exact fun _ _ h => h) (by rw [HG.out]; exact ⟨fun h => absurd h (by decide), fun h => absurd h (by decide), fun h => absurd h (by decide), fun _ _ _ => E5.out.symm⟩))
              · intro bf ac wv hfb haf hJ K' hK
                obtain ⟨vs, rfl, j8, jn⟩ := hJ
                replace hK := Lib.hid hK
                have h8 : bf 11 = false := Bool.eq_false_iff.2 fun h => absurd (((j8 h).1 6 (by omega)).symm.trans hfb) (by simp)
                obtain ⟨hM, j4⟩ := jn h8
                replace hM := Lib.hid hM
                rw [HG.out] at j4
                simp [Region.binds] at haf
                have e5 := ((j4 5 (by simp [haf])).2.2.2 (by decide) (by decide) (by decide)).trans E5.out
                replace j4 := Lib.hid j4
                clear haf hfb jn j8
                have tx := Htx.out
                have txw := Hwx.out
                have txv := Hvx.out
                rw [HLIT.out]
                go_simp
                exact hK.out _ _ (NY.next (wv := wv) (vs := vs) 6 (by omega) (x := .int .i64 y) (by rw [HLIT.out]; simp only [upv, e5, tx, txw, txv, Nat.reduceBEq, cond_true, cond_false]) h8 (by rw [HG.out]; exact j4.out) hM.out (by rw [HG.out]; exact fun _ _ h => h) (by rw [HG.out]; exact ⟨fun h => absurd h (by decide), fun h => absurd h (by decide), fun h => absurd h (by decide), fun _ _ _ => E6.out.symm⟩))
              · intro bf ac wv hfb haf hJ K' hK
                obtain ⟨vs, rfl, j8, jn⟩ := hJ
                replace hK := Lib.hid hK
                have h8 : bf 11 = false := Bool.eq_false_iff.2 fun h => absurd (((j8 h).1 7 (by omega)).symm.trans hfb) (by simp)
                obtain ⟨hM, j4⟩ := jn h8
                replace hM := Lib.hid hM
                rw [HG.out] at j4
                simp [Region.binds] at haf
                have e0 := ((j4 0 (by simp [haf])).2.2.2 (by decide) (by decide) (by decide)).trans E0.out
                have e6 := ((j4 6 (by simp [haf])).2.2.2 (by decide) (by decide) (by decide)).trans E6.out
                replace j4 := Lib.hid j4
                clear haf hfb jn j8
                rw [HLIT.out]
                go_simp
                go_at_call 11
                refine (add_any _ lL y _ (tg_of_row (row_step HC2.out hM.out))).mono ?_
                rintro e w4 ⟨⟨u, rfl, hu⟩, b4⟩
                rw [Ll.out] at hu
                rw [El.out]
                obtain ⟨ua, uc, rfl⟩ := row_slice hu
                exact hK.out _ _ (NY.next (wv := wv) (vs := vs) 7 (by omega) (x := .tuple #[.agg #[.slice ua lN.length uc], .int .i64 0]) (by rw [HLIT.out]; simp only [upv, e0, e6, Nat.reduceBEq, cond_true, cond_false]) h8 (by rw [HG.out]; exact j4.out) (keep2 b4 hM.out) (by rw [HG.out]; exact fun k v h => ⟨fun z => (by
                  obtain ⟨ua, uc, z1, z2⟩ := h.1 z
                  exact ⟨ua, uc, z1, row_step z2 b4⟩), fun z => (by
                  obtain ⟨ua, uc, z1, z2⟩ := h.2.1 z
                  exact ⟨ua, uc, z1, row_step z2 b4⟩), fun z => (by
                  obtain ⟨ua, uc, z1, z2⟩ := h.2.2.1 z
                  exact ⟨ua, uc, z1, row_step z2 b4⟩), h.2.2.2⟩) (by rw [HG.out]; exact ⟨fun _ => ⟨ua, uc, rfl, row_base hu (by have := hM.out.size; omega)⟩, fun h => absurd h (by decide), fun h => absurd h (by decide), fun h7 => absurd rfl h7⟩))
              · intro bf ac wv hfb haf hJ K' hK
                obtain ⟨vs, rfl, j8, jn⟩ := hJ
                replace hK := Lib.hid hK
                have h8 : bf 11 = false := Bool.eq_false_iff.2 fun h => absurd (((j8 h).1 8 (by omega)).symm.trans hfb) (by simp)
                obtain ⟨hM, j4⟩ := jn h8
                replace hM := Lib.hid hM
                rw [HG.out] at j4
                simp [Region.binds] at haf
                have e7 := (j4 7 (by simp [haf])).1 rfl
                replace j4 := Lib.hid j4
                clear haf hfb jn j8
                obtain ⟨ua, uc, z1, z2⟩ := e7
                rw [HLIT.out]
                go_simp
                exact hK.out _ _ (NY.next (wv := wv) (vs := vs) 8 (by omega) (x := .tuple #[.agg #[.slice ua lN.length uc], .int .i64 0]) (by rw [HLIT.out]; simp only [upv, z1, Nat.reduceBEq, cond_true, cond_false]) h8 (by rw [HG.out]; exact j4.out) hM.out (by rw [HG.out]; exact fun _ _ h => h) (by rw [HG.out]; exact ⟨fun h => absurd h (by decide), fun _ => ⟨ua, uc, rfl, z2⟩, fun h => absurd h (by decide), fun h7 => fun h8 => absurd rfl h8⟩))
              · intro bf ac wv hfb haf hJ K' hK
                obtain ⟨vs, rfl, j8, jn⟩ := hJ
                replace hK := Lib.hid hK
                have h8 : bf 11 = false := Bool.eq_false_iff.2 fun h => absurd (((j8 h).1 9 (by omega)).symm.trans hfb) (by simp)
                obtain ⟨hM, j4⟩ := jn h8
                replace hM := Lib.hid hM
                rw [HG.out] at j4
                simp [Region.binds] at haf
                have e8 := (j4 8 (by simp [haf])).2.1 rfl
                replace j4 := Lib.hid j4
                clear haf hfb jn j8
                obtain ⟨ua, uc, z1, z2⟩ := e8
                rw [HLIT.out]
                go_simp
                exact hK.out _ _ (NY.next (wv := wv) (vs := vs) 9 (by omega) (x := .agg #[.slice ua lN.length uc]) (by rw [HLIT.out]; simp only [upv, z1, Nat.reduceBEq, cond_true, cond_false]) h8 (by rw [HG.out]; exact j4.out) hM.out (by rw [HG.out]; exact fun _ _ h => h) (by rw [HG.out]; exact ⟨fun h => absurd h (by decide), fun h => absurd h (by decide), fun _ => ⟨ua, uc, rfl, z2⟩, fun h7 => fun h8 => fun h9 => absurd rfl h9⟩))
              · intro bf ac wv hfb haf hJ K' hK
                obtain ⟨vs, rfl, j8, jn⟩ := hJ
                replace hK := Lib.hid hK
                by_cases h8t : bf 11 = true
                · obtain ⟨ha, ⟨ua, uc, z1⟩, hF⟩ := j8 h8t
                  clear haf hfb jn j8
                  have HA := Lib.hid ha
                  have HF := Lib.hid hF
                  clear ha hF
                  rw [HLIT.out]
                  go_simp
                  exact hK.out _ _ (NY.late (i := 10) (vs := vs) (by omega) (x := .int .i64 0) (by rw [HLIT.out]; simp only [upv, z1, Nat.reduceBEq, cond_true, cond_false]) h8t HA.out ⟨ua, uc, z1⟩ HF.out)
                have h8 : bf 11 = false := Bool.eq_false_iff.2 h8t
                obtain ⟨hM, j4⟩ := jn h8
                replace hM := Lib.hid hM
                rw [HG.out] at j4
                simp [Region.binds] at haf
                have e8 := (j4 8 (by simp [haf])).2.1 rfl
                replace j4 := Lib.hid j4
                clear haf hfb jn j8
                obtain ⟨ua, uc, z1, z2⟩ := e8
                rw [HLIT.out]
                go_simp
                exact hK.out _ _ (NY.next (wv := wv) (vs := vs) 10 (by omega) (x := .int .i64 0) (by rw [HLIT.out]; simp only [upv, z1, Nat.reduceBEq, cond_true, cond_false]) h8 (by rw [HG.out]; exact j4.out) hM.out (by rw [HG.out]; exact fun _ _ h => h) (by rw [HG.out]; exact ⟨fun h => absurd h (by decide), fun h => absurd h (by decide), fun h => absurd h (by decide), fun _ _ _ => E10.out.symm⟩))
              · intro bf ac wv hfb haf hJ K' hK
                obtain ⟨vs, rfl, j8, jn⟩ := hJ
                replace hK := Lib.hid hK
                obtain ⟨hM, j4⟩ := jn hfb
                replace hM := Lib.hid hM
                rw [HG.out] at j4
                simp [Region.binds] at haf
                have HA := Lib.hid (all10 (bf := bf) (by simp [haf]) (by simp [haf]) (by simp [haf]) (by simp [haf]) (by simp [haf]) (by simp [haf]) (by simp [haf]) (by simp [haf]) (by simp [haf]) (by simp [haf]))
                have e8 := (j4 8 (by simp [haf])).2.1 rfl
                have e9 := (j4 9 (by simp [haf])).2.2.1 rfl
                clear haf hfb jn j8
                have Z8 := Lib.hid (show ∃ ua uc, vs 8 = .tuple #[.agg #[.slice ua lN.length uc], .int .i64 0] from by
                  obtain ⟨ua, uc, q1, -⟩ := e8
                  exact ⟨ua, uc, q1⟩)
                clear e8
                obtain ⟨ua, uc, z1, z2⟩ := e9
                clear j4
                have Z2 := Lib.hid z2
                clear z2
                have C3 := HC1.out.step hM.out
                have s0 := C3.c 0 rfl
                have s1 := C3.f 0 (by simp)
                have s2 := C3.2.2
                have HC3 := Lib.hid C3
                clear C3
                rw [HLIT.out]
                go_simp
                exact hK.out _ _ (NY.last (vs := vs) (by rw [HLIT.out]; simp only [z1]) HA.out Z8.out ⟨⟨ua, uc, HC3.out.set 0 (by simp) _ rfl, row_other Z2.out (by omega)⟩, (KS0.out.step hM.out).other (by omega) (by omega), (KS1.out.step hM.out).other (by omega) (by omega), (KS3.out.step hM.out).other (by omega) (by omega), (keep2 hM.out HBr.out).setCell (by have := HSZ2.out; show w.heap.size ≤ u1.heap.size + 1 + 1; omega) _, by have := hM.out.size; simp; omega⟩)
            · intro bf ac wv hall hJ
              obtain ⟨vs, rfl, j8, -⟩ := hJ
              have hF := (j8 (hall 11 (by decide))).2.2
              clear hall j8
              obtain ⟨f0, f1, f2, f3, f4, f5⟩ := hF
              rw [HLIT.out]
              dsimp only
              replace KS2 := Lib.hid f0
              replace KS0 := Lib.hid f1
              replace KS1 := Lib.hid f2
              replace KS3 := Lib.hid f3
              have HBn := Lib.hid f4
              replace HBr := HBn
              clear HBn f0 f1 f2 f3 f4 HC1 HC2 hW4
              have HZ9 := Lib.hid f5
              clear f5
              obtain ⟨ps, hps⟩ : ∃ us, us = vs := ⟨_, rfl⟩
              rw [← hps]
              clear hps
              replace hr4 : u1.heap.size + 4 ≤ wv.heap.size := HZ9.out
              clear HZ9
              go_wp2
              go_roundw
              case rel => exact ⟨k + 1, oN, bN, lN, rL, by omega, by go_num, ⟨Fo.out, Fb.out, Fl.out⟩, KS0, KS1, KS2, KS3, HBr.out, hr4⟩
              case measure => simp [intOf]; omega
          · by_cases hq1 : k < q.length
            · have hq2 : q.getD k false = false := by
                cases hh : q.getD k false
                · rfl
                · exact absurd ⟨hq1, hh⟩ hq
              obtain ⟨b9, c9, hpv, -, hpc⟩ := HP.out
              obtain ⟨b8, o8, rfl, hp8⟩ := hpc (by intro h; rw [h] at hq1; simp at hq1)
              obtain ⟨rfl, rfl⟩ : pa = some ⟨b8, o8, none⟩ ∧ pc = c9 := by simpa using hpv
              have hqc := keep1 HBr.out (hp8 k false (by rw [← hq2]; simp [hq1]))
              clear hpv hpc hp8 hq
              have hqb := World.block_lt_of_cell? _ _ hqc
              have hqb : b8 < wp.heap.size := hqb
              go_wp2_with fail
              clear hqc hqb
              obtain ⟨xa, xc, hx1, hx2⟩ := KS3.out
              have HC1 := Lib.hid hx1
              have HC2 := Lib.hid hx2
              clear hx1 hx2
              have hW4 := hr4
              obtain ⟨lit, hlit⟩ : ∃ lit : (Nat → Value) → Act, lit = fun vs => { tmps := List.toArray (Value.slice (some { block := tb, off := tf }) l.length tc :: Value.slice (some { block := b8, off := o8 }) q.length pc :: undef :: undef :: Value.bool false :: Value.bool true :: Value.pointer (some { block := u1.heap.size, off := 0 }) :: Value.pointer (some { block := u1.heap.size + 1, off := 0 }) :: Value.pointer (some { block := u1.heap.size + 1 + 1, off := 0 }) :: Value.pointer (some { block := u1.heap.size + 1 + 1 + 1, off := 0 }) :: Value.int IntKind.i64 (k : Int) :: undef :: undef :: Value.bool true :: Value.slice (some { block := tb, off := tf }) l.length tc :: Value.int IntKind.i64 (l.length : Int) :: Value.bool false :: undef :: Value.agg #[Value.slice none 0 0] :: Value.agg #[Value.slice none 0 0] :: Value.agg #[Value.slice none 0 0] :: Value.agg #[Value.slice none 0 0] :: Value.int IntKind.i64 (k : Int) :: Value.slice (some { block := tb, off := tf }) l.length tc :: Value.int IntKind.i64 (l.length : Int) :: Value.bool true :: u26 :: u27 :: us 8 :: us 0 :: us 1 :: us 2 :: us 3 :: us 4 :: us 5 :: us 6 :: us 7 :: us 9 :: us 10 :: ts 12 :: ts 0 :: ts 1 :: ts 2 :: ts 3 :: ts 4 :: ts 5 :: ts 6 :: ts 7 :: ts 8 :: ts 9 :: ts 10 :: ts 11 :: ts 13 :: ts 14 :: Value.int IntKind.i64 (k : Int) :: Value.slice (some { block := b8, off := o8 }) q.length pc :: Value.int IntKind.i64 (q.length : Int) :: Value.bool true :: Value.bool true :: Value.slice (some { block := b8, off := o8 }) q.length pc :: Value.int IntKind.i64 (k : Int) :: Value.pointer (some { block := b8, off := o8 + k }) :: Value.bool false :: Value.bool false :: u64 :: u65 :: u66 :: u67 :: u68 :: u69 :: u70 :: u71 :: u72 :: u73 :: u74 :: vs 8 :: vs 0 :: vs 1 :: vs 2 :: vs 3 :: vs 4 :: vs 5 :: vs 6 :: vs 7 :: vs 9 :: vs 10 :: undef :: undef :: undef :: undef :: undef :: undef :: undef :: undef :: undef :: undef :: undef :: undef :: undef :: undef :: undef :: undef :: undef :: undef :: undef :: undef :: undef :: undef :: undef :: undef :: undef :: []), defers := [] } := ⟨_, rfl⟩
              have HLIT := Lib.hid hlit
              clear hlit
              obtain ⟨val, hval⟩ : ∃ val : List Value, val = [.agg #[.slice xa rL.length xc], .slice (some ⟨tb, tf, none⟩) l.length tc, .int .i64 (k : Int), .pointer (some ⟨tb, tf + k, none⟩), .int .u32 x, .int .i64 x, .int .i64 y, undef, undef, undef, .int .i64 0, undef] := ⟨_, rfl⟩
              have E0 := Lib.hid (show val.getD 0 undef = .agg #[.slice xa rL.length xc] by rw [hval]; rfl)
              have E1 := Lib.hid (show val.getD 1 undef = .slice (some ⟨tb, tf, none⟩) l.length tc by rw [hval]; rfl)
              have E2 := Lib.hid (show val.getD 2 undef = .int .i64 (k : Int) by rw [hval]; rfl)
              have E3 := Lib.hid (show val.getD 3 undef = .pointer (some ⟨tb, tf + k, none⟩) by rw [hval]; rfl)
              have E4 := Lib.hid (show val.getD 4 undef = .int .u32 x by rw [hval]; rfl)
              have E5 := Lib.hid (show val.getD 5 undef = .int .i64 x by rw [hval]; rfl)
              have E6 := Lib.hid (show val.getD 6 undef = .int .i64 y by rw [hval]; rfl)
              have E10 := Lib.hid (show val.getD 10 undef = .int .i64 0 by rw [hval]; rfl)
              clear hval
              obtain ⟨G, hG0⟩ : ∃ G : Nat → Value → World → Prop, G = (fun i v w => (i = 7 → ∃ ua uc, v = .tuple #[.agg #[.slice ua rN.length uc], .int .i64 0] ∧ w.ownsRow (u1.heap.size + 4) 3 1 (.slice ua rN.length uc) rN.length (rN.map (Value.int .i64))) ∧ (i = 8 → ∃ ua uc, v = .tuple #[.agg #[.slice ua rN.length uc], .int .i64 0] ∧ w.ownsRow (u1.heap.size + 4) 3 1 (.slice ua rN.length uc) rN.length (rN.map (Value.int .i64))) ∧ (i = 9 → ∃ ua uc, v = .agg #[.slice ua rN.length uc] ∧ w.ownsRow (u1.heap.size + 4) 3 1 (.slice ua rN.length uc) rN.length (rN.map (Value.int .i64))) ∧ (i ≠ 7 → i ≠ 8 → i ≠ 9 → v = val.getD i undef)) := ⟨_, rfl⟩
              have HG := Lib.hid hG0
              clear hG0
              refine region_inv (NY 11 8 lit wp G (fun v => ∃ ua uc, v = .tuple #[.agg #[.slice ua rN.length uc], .int .i64 0]) (fun vs wv => St (u1.heap.size + 4) wv (u1.heap.size + 1 + 1 + 1) rN ∧ St (u1.heap.size + 4) wv (u1.heap.size) oN ∧ St (u1.heap.size + 4) wv (u1.heap.size + 1) bN ∧ St (u1.heap.size + 4) wv (u1.heap.size + 1 + 1) lL ∧ Below w.heap.size w wv ∧ u1.heap.size + 4 ≤ wv.heap.size)) (by kernel_rfl) (by decide +kernel) ?_ ?_ ?_
              · exact ⟨fun i => ([u76, u77, u78, u79, u80, u81, u82, u83, u75, u84, u85, undef] : List Value).getD i undef, (by rw [HLIT.out]; rfl), fun h => (by cases h), fun _ => ⟨below_drew _ _, fun i h => by cases h⟩⟩
              · refine ⟨?_, ?_, ?_, ?_, ?_, ?_, ?_, ?_, ?_, ?_, ?_, ?_, trivial⟩
                · intro bf ac wv hfb haf hJ K' hK
                  obtain ⟨vs, rfl, j8, jn⟩ := hJ
                  replace hK := Lib.hid hK
                  have h8 : bf 11 = false := Bool.eq_false_iff.2 fun h => absurd (((j8 h).1 0 (by omega)).symm.trans hfb) (by simp)
                  obtain ⟨hM, j4⟩ := jn h8
                  replace hM := Lib.hid hM
                  rw [HG.out] at j4
                  replace j4 := Lib.hid j4
                  clear haf hfb jn j8
                  have K1 := HC1.out.step hM.out
                  have x0 := K1.c 0 rfl
                  have xz := K1.2.2
                  clear K1
                  rw [HLIT.out]
                  go_simp
                  exact hK.out _ _ (NY.next (wv := wv) (vs := vs) 0 (by omega) (x := .agg #[.slice xa rL.length xc]) (by rw [HLIT.out]; rfl) h8 (by rw [HG.out]; exact j4.out) hM.out (by rw [HG.out]; exact fun _ _ h => h) (by rw [HG.out]; exact ⟨fun h => absurd h (by decide), fun h => absurd h (by decide), fun h => absurd h (by decide), fun _ _ _ => E0.out.symm⟩))
                · intro bf ac wv hfb haf hJ K' hK
                  obtain ⟨vs, rfl, j8, jn⟩ := hJ
                  replace hK := Lib.hid hK
                  have h8 : bf 11 = false := Bool.eq_false_iff.2 fun h => absurd (((j8 h).1 1 (by omega)).symm.trans hfb) (by simp)
                  obtain ⟨hM, j4⟩ := jn h8
                  replace hM := Lib.hid hM
                  rw [HG.out] at j4
                  replace j4 := Lib.hid j4
                  clear haf hfb jn j8
                  rw [HLIT.out]
                  go_simp
                  exact hK.out _ _ (NY.next (wv := wv) (vs := vs) 1 (by omega) (x := .slice (some ⟨tb, tf, none⟩) l.length tc) (by rw [HLIT.out]; rfl) h8 (by rw [HG.out]; exact j4.out) hM.out (by rw [HG.out]; exact fun _ _ h => h) (by rw [HG.out]; exact ⟨fun h => absurd h (by decide), fun h => absurd h (by decide), fun h => absurd h (by decide), fun _ _ _ => E1.out.symm⟩))
                · intro bf ac wv hfb haf hJ K' hK
                  obtain ⟨vs, rfl, j8, jn⟩ := hJ
                  replace hK := Lib.hid hK
                  have h8 : bf 11 = false := Bool.eq_false_iff.2 fun h => absurd (((j8 h).1 2 (by omega)).symm.trans hfb) (by simp)
                  obtain ⟨hM, j4⟩ := jn h8
                  replace hM := Lib.hid hM
                  rw [HG.out] at j4
                  replace j4 := Lib.hid j4
                  clear haf hfb jn j8
                  rw [HLIT.out]
                  go_simp
                  exact hK.out _ _ (NY.next (wv := wv) (vs := vs) 2 (by omega) (x := .int .i64 (k : Int)) (by rw [HLIT.out]; rfl) h8 (by rw [HG.out]; exact j4.out) hM.out (by rw [HG.out]; exact fun _ _ h => h) (by rw [HG.out]; exact ⟨fun h => absurd h (by decide), fun h => absurd h (by decide), fun h => absurd h (by decide), fun _ _ _ => E2.out.symm⟩))
                · intro bf ac wv hfb haf hJ K' hK
                  obtain ⟨vs, rfl, j8, jn⟩ := hJ
                  replace hK := Lib.hid hK
                  have h8 : bf 11 = false := Bool.eq_false_iff.2 fun h => absurd (((j8 h).1 3 (by omega)).symm.trans hfb) (by simp)
                  obtain ⟨hM, j4⟩ := jn h8
                  replace hM := Lib.hid hM
                  rw [HG.out] at j4
                  simp [Region.binds] at haf
                  have e1 := ((j4 1 (by simp [haf])).2.2.2 (by decide) (by decide) (by decide)).trans E1.out
                  have e2 := ((j4 2 (by simp [haf])).2.2.2 (by decide) (by decide) (by decide)).trans E2.out
                  replace j4 := Lib.hid j4
                  clear haf hfb jn j8
                  have y1 : (k : Int) < (l.length : Int) := by omega
                  have y2 : (0 : Int) ≤ (k : Int) := by omega
                  rw [HLIT.out]
                  go_simp
                  exact hK.out _ _ (NY.next (wv := wv) (vs := vs) 3 (by omega) (x := .pointer (some ⟨tb, tf + k, none⟩)) (by rw [HLIT.out]; simp only [upv, e1, e2, Nat.reduceBEq, cond_true, cond_false]) h8 (by rw [HG.out]; exact j4.out) hM.out (by rw [HG.out]; exact fun _ _ h => h) (by rw [HG.out]; exact ⟨fun h => absurd h (by decide), fun h => absurd h (by decide), fun h => absurd h (by decide), fun _ _ _ => E3.out.symm⟩))
                · intro bf ac wv hfb haf hJ K' hK
                  obtain ⟨vs, rfl, j8, jn⟩ := hJ
                  replace hK := Lib.hid hK
                  have h8 : bf 11 = false := Bool.eq_false_iff.2 fun h => absurd (((j8 h).1 4 (by omega)).symm.trans hfb) (by simp)
                  obtain ⟨hM, j4⟩ := jn h8
                  replace hM := Lib.hid hM
                  rw [HG.out] at j4
                  simp [Region.binds] at haf
                  have e3 := ((j4 3 (by simp [haf])).2.2.2 (by decide) (by decide) (by decide)).trans E3.out
                  replace j4 := Lib.hid j4
                  clear haf hfb jn j8
                  have xg := keep1 (keep2 hM.out HBr.out) Hx.out
                  have xgz := World.block_lt_of_cell? _ _ xg
                  have xgz : tb < wv.heap.size := xgz
                  rw [HLIT.out]
                  go_simp
                  exact hK.out _ _ (NY.next (wv := wv) (vs := vs) 4 (by omega) (x := .int .u32 x) (by rw [HLIT.out]; simp only [upv, e3, Nat.reduceBEq, cond_true, cond_false]) h8 (by rw [HG.out]; exact j4.out) hM.out (by rw [HG.out]; exact fun _ _ h => h) (by rw [HG.out]; exact ⟨fun h => absurd h (by decide), fun h => absurd h (by decide), fun h => absurd h (by decide), fun _ _ _ => E4.out.symm⟩))
                · intro bf ac wv hfb haf hJ K' hK
                  obtain ⟨vs, rfl, j8, jn⟩ := hJ
                  replace hK := Lib.hid hK
                  have h8 : bf 11 = false := Bool.eq_false_iff.2 fun h => absurd (((j8 h).1 5 (by omega)).symm.trans hfb) (by simp)
                  obtain ⟨hM, j4⟩ := jn h8
                  replace hM := Lib.hid hM
                  rw [HG.out] at j4
                  simp [Region.binds] at haf
                  have e4 := ((j4 4 (by simp [haf])).2.2.2 (by decide) (by decide) (by decide)).trans E4.out
                  replace j4 := Lib.hid j4
                  clear haf hfb jn j8
                  have cx := Hcx.out
                  rw [HLIT.out]
                  go_simp
                  exact hK.out _ _ (NY.next (wv := wv) (vs := vs) 5 (by omega) (x := .int .i64 x) (by rw [HLIT.out]; simp only [upv, e4, cx, Nat.reduceBEq, cond_true, cond_false]) h8 (by rw [HG.out]; exact j4.out) hM.out (by rw [HG.out]; exact fun _ _ h => h) (by rw [HG.out]; exact ⟨fun h => absurd h (by decide), fun h => absurd h (by decide), fun h => absurd h (by decide), fun _ _ _ => E5.out.symm⟩))
                · intro bf ac wv hfb haf hJ K' hK
                  obtain ⟨vs, rfl, j8, jn⟩ := hJ
                  replace hK := Lib.hid hK
                  have h8 : bf 11 = false := Bool.eq_false_iff.2 fun h => absurd (((j8 h).1 6 (by omega)).symm.trans hfb) (by simp)
                  obtain ⟨hM, j4⟩ := jn h8
                  replace hM := Lib.hid hM
                  rw [HG.out] at j4
                  simp [Region.binds] at haf
                  have e5 := ((j4 5 (by simp [haf])).2.2.2 (by decide) (by decide) (by decide)).trans E5.out
                  replace j4 := Lib.hid j4
                  clear haf hfb jn j8
                  have tx := Htx.out
                  have txw := Hwx.out
                  have txv := Hvx.out
                  rw [HLIT.out]
                  go_simp
                  exact hK.out _ _ (NY.next (wv := wv) (vs := vs) 6 (by omega) (x := .int .i64 y) (by rw [HLIT.out]; simp only [upv, e5, tx, txw, txv, Nat.reduceBEq, cond_true, cond_false]) h8 (by rw [HG.out]; exact j4.out) hM.out (by rw [HG.out]; exact fun _ _ h => h) (by rw [HG.out]; exact ⟨fun h => absurd h (by decide), fun h => absurd h (by decide), fun h => absurd h (by decide), fun _ _ _ => E6.out.symm⟩))
                · intro bf ac wv hfb haf hJ K' hK
                  obtain ⟨vs, rfl, j8, jn⟩ := hJ
                  replace hK := Lib.hid hK
                  have h8 : bf 11 = false := Bool.eq_false_iff.2 fun h => absurd (((j8 h).1 7 (by omega)).symm.trans hfb) (by simp)
                  obtain ⟨hM, j4⟩ := jn h8
                  replace hM := Lib.hid hM
                  rw [HG.out] at j4
                  simp [Region.binds] at haf
                  have e0 := ((j4 0 (by simp [haf])).2.2.2 (by decide) (by decide) (by decide)).trans E0.out
                  have e6 := ((j4 6 (by simp [haf])).2.2.2 (by decide) (by decide) (by decide)).trans E6.out
                  replace j4 := Lib.hid j4
                  clear haf hfb jn j8
                  rw [HLIT.out]
                  go_simp
                  go_at_call 11
                  refine (add_any _ rL y _ (tg_of_row (row_step HC2.out hM.out))).mono ?_
                  rintro e w4 ⟨⟨u, rfl, hu⟩, b4⟩
                  rw [Lr.out] at hu
                  rw [Er.out]
                  obtain ⟨ua, uc, rfl⟩ := row_slice hu
                  exact hK.out _ _ (NY.next (wv := wv) (vs := vs) 7 (by omega) (x := .tuple #[.agg #[.slice ua rN.length uc], .int .i64 0]) (by rw [HLIT.out]; simp only [upv, e0, e6, Nat.reduceBEq, cond_true, cond_false]) h8 (by rw [HG.out]; exact j4.out) (keep2 b4 hM.out) (by rw [HG.out]; exact fun k v h => ⟨fun z => (by
                    obtain ⟨ua, uc, z1, z2⟩ := h.1 z
                    exact ⟨ua, uc, z1, row_step z2 b4⟩), fun z => (by
                    obtain ⟨ua, uc, z1, z2⟩ := h.2.1 z
                    exact ⟨ua, uc, z1, row_step z2 b4⟩), fun z => (by
                    obtain ⟨ua, uc, z1, z2⟩ := h.2.2.1 z
                    exact ⟨ua, uc, z1, row_step z2 b4⟩), h.2.2.2⟩) (by rw [HG.out]; exact ⟨fun _ => ⟨ua, uc, rfl, row_base hu (by have := hM.out.size; omega)⟩, fun h => absurd h (by decide), fun h => absurd h (by decide), fun h7 => absurd rfl h7⟩))
                · intro bf ac wv hfb haf hJ K' hK
                  obtain ⟨vs, rfl, j8, jn⟩ := hJ
                  replace hK := Lib.hid hK
                  have h8 : bf 11 = false := Bool.eq_false_iff.2 fun h => absurd (((j8 h).1 8 (by omega)).symm.trans hfb) (by simp)
                  obtain ⟨hM, j4⟩ := jn h8
                  replace hM := Lib.hid hM
                  rw [HG.out] at j4
                  simp [Region.binds] at haf
                  have e7 := (j4 7 (by simp [haf])).1 rfl
                  replace j4 := Lib.hid j4
                  clear haf hfb jn j8
                  obtain ⟨ua, uc, z1, z2⟩ := e7
                  rw [HLIT.out]
                  go_simp
                  exact hK.out _ _ (NY.next (wv := wv) (vs := vs) 8 (by omega) (x := .tuple #[.agg #[.slice ua rN.length uc], .int .i64 0]) (by rw [HLIT.out]; simp only [upv, z1, Nat.reduceBEq, cond_true, cond_false]) h8 (by rw [HG.out]; exact j4.out) hM.out (by rw [HG.out]; exact fun _ _ h => h) (by rw [HG.out]; exact ⟨fun h => absurd h (by decide), fun _ => ⟨ua, uc, rfl, z2⟩, fun h => absurd h (by decide), fun h7 => fun h8 => absurd rfl h8⟩))
                · intro bf ac wv hfb haf hJ K' hK
                  obtain ⟨vs, rfl, j8, jn⟩ := hJ
                  replace hK := Lib.hid hK
                  have h8 : bf 11 = false := Bool.eq_false_iff.2 fun h => absurd (((j8 h).1 9 (by omega)).symm.trans hfb) (by simp)
                  obtain ⟨hM, j4⟩ := jn h8
                  replace hM := Lib.hid hM
                  rw [HG.out] at j4
                  simp [Region.binds] at haf
                  have e8 := (j4 8 (by simp [haf])).2.1 rfl
                  replace j4 := Lib.hid j4
                  clear haf hfb jn j8
                  obtain ⟨ua, uc, z1, z2⟩ := e8
                  rw [HLIT.out]
                  go_simp
                  exact hK.out _ _ (NY.next (wv := wv) (vs := vs) 9 (by omega) (x := .agg #[.slice ua rN.length uc]) (by rw [HLIT.out]; simp only [upv, z1, Nat.reduceBEq, cond_true, cond_false]) h8 (by rw [HG.out]; exact j4.out) hM.out (by rw [HG.out]; exact fun _ _ h => h) (by rw [HG.out]; exact ⟨fun h => absurd h (by decide), fun h => absurd h (by decide), fun _ => ⟨ua, uc, rfl, z2⟩, fun h7 => fun h8 => fun h9 => absurd rfl h9⟩))
                · intro bf ac wv hfb haf hJ K' hK
                  obtain ⟨vs, rfl, j8, jn⟩ := hJ
                  replace hK := Lib.hid hK
                  by_cases h8t : bf 11 = true
                  · obtain ⟨ha, ⟨ua, uc, z1⟩, hF⟩ := j8 h8t
                    clear haf hfb jn j8
                    have HA := Lib.hid ha
                    have HF := Lib.hid hF
                    clear ha hF
                    rw [HLIT.out]
                    go_simp
                    exact hK.out _ _ (NY.late (i := 10) (vs := vs) (by omega) (x := .int .i64 0) (by rw [HLIT.out]; simp only [upv, z1, Nat.reduceBEq, cond_true, cond_false]) h8t HA.out ⟨ua, uc, z1⟩ HF.out)
                  have h8 : bf 11 = false := Bool.eq_false_iff.2 h8t
                  obtain ⟨hM, j4⟩ := jn h8
                  replace hM := Lib.hid hM
                  rw [HG.out] at j4
                  simp [Region.binds] at haf
                  have e8 := (j4 8 (by simp [haf])).2.1 rfl
                  replace j4 := Lib.hid j4
                  clear haf hfb jn j8
                  obtain ⟨ua, uc, z1, z2⟩ := e8
                  rw [HLIT.out]
                  go_simp
                  exact hK.out _ _ (NY.next (wv := wv) (vs := vs) 10 (by omega) (x := .int .i64 0) (by rw [HLIT.out]; simp only [upv, z1, Nat.reduceBEq, cond_true, cond_false]) h8 (by rw [HG.out]; exact j4.out) hM.out (by rw [HG.out]; exact fun _ _ h => h) (by rw [HG.out]; exact ⟨fun h => absurd h (by decide), fun h => absurd h (by decide), fun h => absurd h (by decide), fun _ _ _ => E10.out.symm⟩))
                · intro bf ac wv hfb haf hJ K' hK
                  obtain ⟨vs, rfl, j8, jn⟩ := hJ
                  replace hK := Lib.hid hK
                  obtain ⟨hM, j4⟩ := jn hfb
                  replace hM := Lib.hid hM
                  rw [HG.out] at j4
                  simp [Region.binds] at haf
                  have HA := Lib.hid (all10 (bf := bf) (by simp [haf]) (by simp [haf]) (by simp [haf]) (by simp [haf]) (by simp [haf]) (by simp [haf]) (by simp [haf]) (by simp [haf]) (by simp [haf]) (by simp [haf]))
                  have e8 := (j4 8 (by simp [haf])).2.1 rfl
                  have e9 := (j4 9 (by simp [haf])).2.2.1 rfl
                  clear haf hfb jn j8
                  have Z8 := Lib.hid (show ∃ ua uc, vs 8 = .tuple #[.agg #[.slice ua rN.length uc], .int .i64 0] from by
                    obtain ⟨ua, uc, q1, -⟩ := e8
                    exact ⟨ua, uc, q1⟩)
                  clear e8
                  obtain ⟨ua, uc, z1, z2⟩ := e9
                  clear j4
                  have Z2 := Lib.hid z2
                  clear z2
                  have C3 := HC1.out.step hM.out
                  have s0 := C3.c 0 rfl
                  have s1 := C3.f 0 (by simp)
                  have s2 := C3.2.2
                  have HC3 := Lib.hid C3
                  clear C3
                  rw [HLIT.out]
                  go_simp
                  exact hK.out _ _ (NY.last (vs := vs) (by rw [HLIT.out]; simp only [z1]) HA.out Z8.out ⟨⟨ua, uc, HC3.out.set 0 (by simp) _ rfl, row_other Z2.out (by omega)⟩, (KS0.out.step hM.out).other (by omega) (by omega), (KS1.out.step hM.out).other (by omega) (by omega), (KS2.out.step hM.out).other (by omega) (by omega), (keep2 hM.out HBr.out).setCell (by have := HSZ2.out; show w.heap.size ≤ u1.heap.size + 1 + 1 + 1; omega) _, by have := hM.out.size; simp; omega⟩)
              · intro bf ac wv hall hJ
                obtain ⟨vs, rfl, j8, -⟩ := hJ
                have hF := (j8 (hall 11 (by decide))).2.2
                clear hall j8
                obtain ⟨f0, f1, f2, f3, f4, f5⟩ := hF
                rw [HLIT.out]
                dsimp only
                replace KS3 := Lib.hid f0
                replace KS0 := Lib.hid f1
                replace KS1 := Lib.hid f2
                replace KS2 := Lib.hid f3
                have HBn := Lib.hid f4
                replace HBr := HBn
                clear HBn f0 f1 f2 f3 f4 HC1 HC2 hW4
                have HZ9 := Lib.hid f5
                clear f5
                obtain ⟨ps, hps⟩ : ∃ us, us = vs := ⟨_, rfl⟩
                rw [← hps]
                clear hps
                replace hr4 : u1.heap.size + 4 ≤ wv.heap.size := HZ9.out
                clear HZ9
                go_wp2
                go_roundw
                case rel => exact ⟨k + 1, oN, bN, lL, rN, by omega, by go_num, ⟨Fo.out, Fb.out, Fr.out⟩, KS0, KS1, KS2, KS3, HBr.out, hr4⟩
                case measure => simp [intOf]; omega
            · clear hq
              go_wp2_with fail
              obtain ⟨xa, xc, hx1, hx2⟩ := KS3.out
              have HC1 := Lib.hid hx1
              have HC2 := Lib.hid hx2
              clear hx1 hx2
              have hW4 := hr4
              obtain ⟨lit, hlit⟩ : ∃ lit : (Nat → Value) → Act, lit = fun vs => { tmps := List.toArray (Value.slice (some { block := tb, off := tf }) l.length tc :: Value.slice pa q.length pc :: undef :: undef :: Value.bool false :: Value.bool true :: Value.pointer (some { block := u1.heap.size, off := 0 }) :: Value.pointer (some { block := u1.heap.size + 1, off := 0 }) :: Value.pointer (some { block := u1.heap.size + 1 + 1, off := 0 }) :: Value.pointer (some { block := u1.heap.size + 1 + 1 + 1, off := 0 }) :: Value.int IntKind.i64 (k : Int) :: undef :: undef :: Value.bool true :: Value.slice (some { block := tb, off := tf }) l.length tc :: Value.int IntKind.i64 (l.length : Int) :: Value.bool false :: undef :: Value.agg #[Value.slice none 0 0] :: Value.agg #[Value.slice none 0 0] :: Value.agg #[Value.slice none 0 0] :: Value.agg #[Value.slice none 0 0] :: Value.int IntKind.i64 (k : Int) :: Value.slice (some { block := tb, off := tf }) l.length tc :: Value.int IntKind.i64 (l.length : Int) :: Value.bool true :: u26 :: u27 :: us 8 :: us 0 :: us 1 :: us 2 :: us 3 :: us 4 :: us 5 :: us 6 :: us 7 :: us 9 :: us 10 :: ts 12 :: ts 0 :: ts 1 :: ts 2 :: ts 3 :: ts 4 :: ts 5 :: ts 6 :: ts 7 :: ts 8 :: ts 9 :: ts 10 :: ts 11 :: ts 13 :: ts 14 :: Value.int IntKind.i64 (k : Int) :: Value.slice pa q.length pc :: Value.int IntKind.i64 (q.length : Int) :: Value.bool false :: Value.bool false :: undef :: undef :: undef :: undef :: Value.bool false :: u64 :: u65 :: u66 :: u67 :: u68 :: u69 :: u70 :: u71 :: u72 :: u73 :: u74 :: vs 8 :: vs 0 :: vs 1 :: vs 2 :: vs 3 :: vs 4 :: vs 5 :: vs 6 :: vs 7 :: vs 9 :: vs 10 :: undef :: undef :: undef :: undef :: undef :: undef :: undef :: undef :: undef :: undef :: undef :: undef :: undef :: undef :: undef :: undef :: undef :: undef :: undef :: undef :: undef :: undef :: undef :: undef :: undef :: []), defers := [] } := ⟨_, rfl⟩
              have HLIT := Lib.hid hlit
              clear hlit
              obtain ⟨val, hval⟩ : ∃ val : List Value, val = [.agg #[.slice xa rL.length xc], .slice (some ⟨tb, tf, none⟩) l.length tc, .int .i64 (k : Int), .pointer (some ⟨tb, tf + k, none⟩), .int .u32 x, .int .i64 x, .int .i64 y, undef, undef, undef, .int .i64 0, undef] := ⟨_, rfl⟩
              have E0 := Lib.hid (show val.getD 0 undef = .agg #[.slice xa rL.length xc] by rw [hval]; rfl)
              have E1 := Lib.hid (show val.getD 1 undef = .slice (some ⟨tb, tf, none⟩) l.length tc by rw [hval]; rfl)
              have E2 := Lib.hid (show val.getD 2 undef = .int .i64 (k : Int) by rw [hval]; rfl)
              have E3 := Lib.hid (show val.getD 3 undef = .pointer (some ⟨tb, tf + k, none⟩) by rw [hval]; rfl)
              have E4 := Lib.hid (show val.getD 4 undef = .int .u32 x by rw [hval]; rfl)
              have E5 := Lib.hid (show val.getD 5 undef = .int .i64 x by rw [hval]; rfl)
              have E6 := Lib.hid (show val.getD 6 undef = .int .i64 y by rw [hval]; rfl)
              have E10 := Lib.hid (show val.getD 10 undef = .int .i64 0 by rw [hval]; rfl)
              clear hval
              obtain ⟨G, hG0⟩ : ∃ G : Nat → Value → World → Prop, G = (fun i v w => (i = 7 → ∃ ua uc, v = .tuple #[.agg #[.slice ua rN.length uc], .int .i64 0] ∧ w.ownsRow (u1.heap.size + 4) 3 1 (.slice ua rN.length uc) rN.length (rN.map (Value.int .i64))) ∧ (i = 8 → ∃ ua uc, v = .tuple #[.agg #[.slice ua rN.length uc], .int .i64 0] ∧ w.ownsRow (u1.heap.size + 4) 3 1 (.slice ua rN.length uc) rN.length (rN.map (Value.int .i64))) ∧ (i = 9 → ∃ ua uc, v = .agg #[.slice ua rN.length uc] ∧ w.ownsRow (u1.heap.size + 4) 3 1 (.slice ua rN.length uc) rN.length (rN.map (Value.int .i64))) ∧ (i ≠ 7 → i ≠ 8 → i ≠ 9 → v = val.getD i undef)) := ⟨_, rfl⟩
              have HG := Lib.hid hG0
              clear hG0
              refine region_inv (NY 11 8 lit wp G (fun v => ∃ ua uc, v = .tuple #[.agg #[.slice ua rN.length uc], .int .i64 0]) (fun vs wv => St (u1.heap.size + 4) wv (u1.heap.size + 1 + 1 + 1) rN ∧ St (u1.heap.size + 4) wv (u1.heap.size) oN ∧ St (u1.heap.size + 4) wv (u1.heap.size + 1) bN ∧ St (u1.heap.size + 4) wv (u1.heap.size + 1 + 1) lL ∧ Below w.heap.size w wv ∧ u1.heap.size + 4 ≤ wv.heap.size)) (by kernel_rfl) (by decide +kernel) ?_ ?_ ?_
              · exact ⟨fun i => ([u76, u77, u78, u79, u80, u81, u82, u83, u75, u84, u85, undef] : List Value).getD i undef, (by rw [HLIT.out]; rfl), fun h => (by cases h), fun _ => ⟨below_drew _ _, fun i h => by cases h⟩⟩
              · refine ⟨?_, ?_, ?_, ?_, ?_, ?_, ?_, ?_, ?_, ?_, ?_, ?_, trivial⟩
                · intro bf ac wv hfb haf hJ K' hK
                  obtain ⟨vs, rfl, j8, jn⟩ := hJ
                  replace hK := Lib.hid hK
                  have h8 : bf 11 = false := Bool.eq_false_iff.2 fun h => absurd (((j8 h).1 0 (by omega)).symm.trans hfb) (by simp)
                  obtain ⟨hM, j4⟩ := jn h8
                  replace hM := Lib.hid hM
                  rw [HG.out] at j4
                  replace j4 := Lib.hid j4
                  clear haf hfb jn j8
                  have K1 := HC1.out.step hM.out
                  have x0 := K1.c 0 rfl
                  have xz := K1.2.2
                  clear K1
                  rw [HLIT.out]
                  go_simp
                  exact hK.out _ _ (NY.next (wv := wv) (vs := vs) 0 (by omega) (x := .agg #[.slice xa rL.length xc]) (by rw [HLIT.out]; rfl) h8 (by rw [HG.out]; exact j4.out) hM.out (by rw [HG.out]; exact fun _ _ h => h) (by rw [HG.out]; exact ⟨fun h => absurd h (by decide), fun h => absurd h (by decide), fun h => absurd h (by decide), fun _ _ _ => E0.out.symm⟩))
                · intro bf ac wv hfb haf hJ K' hK
                  obtain ⟨vs, rfl, j8, jn⟩ := hJ
                  replace hK := Lib.hid hK
                  have h8 : bf 11 = false := Bool.eq_false_iff.2 fun h => absurd (((j8 h).1 1 (by omega)).symm.trans hfb) (by simp)
                  obtain ⟨hM, j4⟩ := jn h8
                  replace hM := Lib.hid hM
                  rw [HG.out] at j4
                  replace j4 := Lib.hid j4
                  clear haf hfb jn j8
                  rw [HLIT.out]
                  go_simp
                  exact hK.out _ _ (NY.next (wv := wv) (vs := vs) 1 (by omega) (x := .slice (some ⟨tb, tf, none⟩) l.length tc) (by rw [HLIT.out]; rfl) h8 (by rw [HG.out]; exact j4.out) hM.out (by rw [HG.out]; exact fun _ _ h => h) (by rw [HG.out]; exact ⟨fun h => absurd h (by decide), fun h => absurd h (by decide), fun h => absurd h (by decide), fun _ _ _ => E1.out.symm⟩))
                · intro bf ac wv hfb haf hJ K' hK
                  obtain ⟨vs, rfl, j8, jn⟩ := hJ
                  replace hK := Lib.hid hK
                  have h8 : bf 11 = false := Bool.eq_false_iff.2 fun h => absurd (((j8 h).1 2 (by omega)).symm.trans hfb) (by simp)
                  obtain ⟨hM, j4⟩ := jn h8
                  replace hM := Lib.hid hM
                  rw [HG.out] at j4
                  replace j4 := Lib.hid j4
                  clear haf hfb jn j8
                  rw [HLIT.out]
                  go_simp
                  exact hK.out _ _ (NY.next (wv := wv) (vs := vs) 2 (by omega) (x := .int .i64 (k : Int)) (by rw [HLIT.out]; rfl) h8 (by rw [HG.out]; exact j4.out) hM.out (by rw [HG.out]; exact fun _ _ h => h) (by rw [HG.out]; exact ⟨fun h => absurd h (by decide), fun h => absurd h (by decide), fun h => absurd h (by decide), fun _ _ _ => E2.out.symm⟩))
                · intro bf ac wv hfb haf hJ K' hK
                  obtain ⟨vs, rfl, j8, jn⟩ := hJ
                  replace hK := Lib.hid hK
                  have h8 : bf 11 = false := Bool.eq_false_iff.2 fun h => absurd (((j8 h).1 3 (by omega)).symm.trans hfb) (by simp)
                  obtain ⟨hM, j4⟩ := jn h8
                  replace hM := Lib.hid hM
                  rw [HG.out] at j4
                  simp [Region.binds] at haf
                  have e1 := ((j4 1 (by simp [haf])).2.2.2 (by decide) (by decide) (by decide)).trans E1.out
                  have e2 := ((j4 2 (by simp [haf])).2.2.2 (by decide) (by decide) (by decide)).trans E2.out
                  replace j4 := Lib.hid j4
                  clear haf hfb jn j8
                  have y1 : (k : Int) < (l.length : Int) := by omega
                  have y2 : (0 : Int) ≤ (k : Int) := by omega
                  rw [HLIT.out]
                  go_simp
                  exact hK.out _ _ (NY.next (wv := wv) (vs := vs) 3 (by omega) (x := .pointer (some ⟨tb, tf + k, none⟩)) (by rw [HLIT.out]; simp only [upv, e1, e2, Nat.reduceBEq, cond_true, cond_false]) h8 (by rw [HG.out]; exact j4.out) hM.out (by rw [HG.out]; exact fun _ _ h => h) (by rw [HG.out]; exact ⟨fun h => absurd h (by decide), fun h => absurd h (by decide), fun h => absurd h (by decide), fun _ _ _ => E3.out.symm⟩))
                · intro bf ac wv hfb haf hJ K' hK
                  obtain ⟨vs, rfl, j8, jn⟩ := hJ
                  replace hK := Lib.hid hK
                  have h8 : bf 11 = false := Bool.eq_false_iff.2 fun h => absurd (((j8 h).1 4 (by omega)).symm.trans hfb) (by simp)
                  obtain ⟨hM, j4⟩ := jn h8
                  replace hM := Lib.hid hM
                  rw [HG.out] at j4
                  simp [Region.binds] at haf
                  have e3 := ((j4 3 (by simp [haf])).2.2.2 (by decide) (by decide) (by decide)).trans E3.out
                  replace j4 := Lib.hid j4
                  clear haf hfb jn j8
                  have xg := keep1 (keep2 hM.out HBr.out) Hx.out
                  have xgz := World.block_lt_of_cell? _ _ xg
                  have xgz : tb < wv.heap.size := xgz
                  rw [HLIT.out]
                  go_simp
                  exact hK.out _ _ (NY.next (wv := wv) (vs := vs) 4 (by omega) (x := .int .u32 x) (by rw [HLIT.out]; simp only [upv, e3, Nat.reduceBEq, cond_true, cond_false]) h8 (by rw [HG.out]; exact j4.out) hM.out (by rw [HG.out]; exact fun _ _ h => h) (by rw [HG.out]; exact ⟨fun h => absurd h (by decide), fun h => absurd h (by decide), fun h => absurd h (by decide), fun _ _ _ => E4.out.symm⟩))
                · intro bf ac wv hfb haf hJ K' hK
                  obtain ⟨vs, rfl, j8, jn⟩ := hJ
                  replace hK := Lib.hid hK
                  have h8 : bf 11 = false := Bool.eq_false_iff.2 fun h => absurd (((j8 h).1 5 (by omega)).symm.trans hfb) (by simp)
                  obtain ⟨hM, j4⟩ := jn h8
                  replace hM := Lib.hid hM
                  rw [HG.out] at j4
                  simp [Region.binds] at haf
                  have e4 := ((j4 4 (by simp [haf])).2.2.2 (by decide) (by decide) (by decide)).trans E4.out
                  replace j4 := Lib.hid j4
                  clear haf hfb jn j8
                  have cx := Hcx.out
                  rw [HLIT.out]
                  go_simp
                  exact hK.out _ _ (NY.next (wv := wv) (vs := vs) 5 (by omega) (x := .int .i64 x) (by rw [HLIT.out]; simp only [upv, e4, cx, Nat.reduceBEq, cond_true, cond_false]) h8 (by rw [HG.out]; exact j4.out) hM.out (by rw [HG.out]; exact fun _ _ h => h) (by rw [HG.out]; exact ⟨fun h => absurd h (by decide), fun h => absurd h (by decide), fun h => absurd h (by decide), fun _ _ _ => E5.out.symm⟩))
                · intro bf ac wv hfb haf hJ K' hK
                  obtain ⟨vs, rfl, j8, jn⟩ := hJ
                  replace hK := Lib.hid hK
                  have h8 : bf 11 = false := Bool.eq_false_iff.2 fun h => absurd (((j8 h).1 6 (by omega)).symm.trans hfb) (by simp)
                  obtain ⟨hM, j4⟩ := jn h8
                  replace hM := Lib.hid hM
                  rw [HG.out] at j4
                  simp [Region.binds] at haf
                  have e5 := ((j4 5 (by simp [haf])).2.2.2 (by decide) (by decide) (by decide)).trans E5.out
                  replace j4 := Lib.hid j4
                  clear haf hfb jn j8
                  have tx := Htx.out
                  have txw := Hwx.out
                  have txv := Hvx.out
                  rw [HLIT.out]
                  go_simp
                  exact hK.out _ _ (NY.next (wv := wv) (vs := vs) 6 (by omega) (x := .int .i64 y) (by rw [HLIT.out]; simp only [upv, e5, tx, txw, txv, Nat.reduceBEq, cond_true, cond_false]) h8 (by rw [HG.out]; exact j4.out) hM.out (by rw [HG.out]; exact fun _ _ h => h) (by rw [HG.out]; exact ⟨fun h => absurd h (by decide), fun h => absurd h (by decide), fun h => absurd h (by decide), fun _ _ _ => E6.out.symm⟩))
                · intro bf ac wv hfb haf hJ K' hK
                  obtain ⟨vs, rfl, j8, jn⟩ := hJ
                  replace hK := Lib.hid hK
                  have h8 : bf 11 = false := Bool.eq_false_iff.2 fun h => absurd (((j8 h).1 7 (by omega)).symm.trans hfb) (by simp)
                  obtain ⟨hM, j4⟩ := jn h8
                  replace hM := Lib.hid hM
                  rw [HG.out] at j4
                  simp [Region.binds] at haf
                  have e0 := ((j4 0 (by simp [haf])).2.2.2 (by decide) (by decide) (by decide)).trans E0.out
                  have e6 := ((j4 6 (by simp [haf])).2.2.2 (by decide) (by decide) (by decide)).trans E6.out
                  replace j4 := Lib.hid j4
                  clear haf hfb jn j8
                  rw [HLIT.out]
                  go_simp
                  go_at_call 11
                  refine (add_any _ rL y _ (tg_of_row (row_step HC2.out hM.out))).mono ?_
                  rintro e w4 ⟨⟨u, rfl, hu⟩, b4⟩
                  rw [Lr.out] at hu
                  rw [Er.out]
                  obtain ⟨ua, uc, rfl⟩ := row_slice hu
                  exact hK.out _ _ (NY.next (wv := wv) (vs := vs) 7 (by omega) (x := .tuple #[.agg #[.slice ua rN.length uc], .int .i64 0]) (by rw [HLIT.out]; simp only [upv, e0, e6, Nat.reduceBEq, cond_true, cond_false]) h8 (by rw [HG.out]; exact j4.out) (keep2 b4 hM.out) (by rw [HG.out]; exact fun k v h => ⟨fun z => (by
                    obtain ⟨ua, uc, z1, z2⟩ := h.1 z
                    exact ⟨ua, uc, z1, row_step z2 b4⟩), fun z => (by
                    obtain ⟨ua, uc, z1, z2⟩ := h.2.1 z
                    exact ⟨ua, uc, z1, row_step z2 b4⟩), fun z => (by
                    obtain ⟨ua, uc, z1, z2⟩ := h.2.2.1 z
                    exact ⟨ua, uc, z1, row_step z2 b4⟩), h.2.2.2⟩) (by rw [HG.out]; exact ⟨fun _ => ⟨ua, uc, rfl, row_base hu (by have := hM.out.size; omega)⟩, fun h => absurd h (by decide), fun h => absurd h (by decide), fun h7 => absurd rfl h7⟩))
                · intro bf ac wv hfb haf hJ K' hK
                  obtain ⟨vs, rfl, j8, jn⟩ := hJ
                  replace hK := Lib.hid hK
                  have h8 : bf 11 = false := Bool.eq_false_iff.2 fun h => absurd (((j8 h).1 8 (by omega)).symm.trans hfb) (by simp)
                  obtain ⟨hM, j4⟩ := jn h8
                  replace hM := Lib.hid hM
                  rw [HG.out] at j4
                  simp [Region.binds] at haf
                  have e7 := (j4 7 (by simp [haf])).1 rfl
                  replace j4 := Lib.hid j4
                  clear haf hfb jn j8
                  obtain ⟨ua, uc, z1, z2⟩ := e7
                  rw [HLIT.out]
                  go_simp
                  exact hK.out _ _ (NY.next (wv := wv) (vs := vs) 8 (by omega) (x := .tuple #[.agg #[.slice ua rN.length uc], .int .i64 0]) (by rw [HLIT.out]; simp only [upv, z1, Nat.reduceBEq, cond_true, cond_false]) h8 (by rw [HG.out]; exact j4.out) hM.out (by rw [HG.out]; exact fun _ _ h => h) (by rw [HG.out]; exact ⟨fun h => absurd h (by decide), fun _ => ⟨ua, uc, rfl, z2⟩, fun h => absurd h (by decide), fun h7 => fun h8 => absurd rfl h8⟩))
                · intro bf ac wv hfb haf hJ K' hK
                  obtain ⟨vs, rfl, j8, jn⟩ := hJ
                  replace hK := Lib.hid hK
                  have h8 : bf 11 = false := Bool.eq_false_iff.2 fun h => absurd (((j8 h).1 9 (by omega)).symm.trans hfb) (by simp)
                  obtain ⟨hM, j4⟩ := jn h8
                  replace hM := Lib.hid hM
                  rw [HG.out] at j4
                  simp [Region.binds] at haf
                  have e8 := (j4 8 (by simp [haf])).2.1 rfl
                  replace j4 := Lib.hid j4
                  clear haf hfb jn j8
                  obtain ⟨ua, uc, z1, z2⟩ := e8
                  rw [HLIT.out]
                  go_simp
                  exact hK.out _ _ (NY.next (wv := wv) (vs := vs) 9 (by omega) (x := .agg #[.slice ua rN.length uc]) (by rw [HLIT.out]; simp only [upv, z1, Nat.reduceBEq, cond_true, cond_false]) h8 (by rw [HG.out]; exact j4.out) hM.out (by rw [HG.out]; exact fun _ _ h => h) (by rw [HG.out]; exact ⟨fun h => absurd h (by decide), fun h => absurd h (by decide), fun _ => ⟨ua, uc, rfl, z2⟩, fun h7 => fun h8 => fun h9 => absurd rfl h9⟩))
                · intro bf ac wv hfb haf hJ K' hK
                  obtain ⟨vs, rfl, j8, jn⟩ := hJ
                  replace hK := Lib.hid hK
                  by_cases h8t : bf 11 = true
                  · obtain ⟨ha, ⟨ua, uc, z1⟩, hF⟩ := j8 h8t
                    clear haf hfb jn j8
                    have HA := Lib.hid ha
                    have HF := Lib.hid hF
                    clear ha hF
                    rw [HLIT.out]
                    go_simp
                    exact hK.out _ _ (NY.late (i := 10) (vs := vs) (by omega) (x := .int .i64 0) (by rw [HLIT.out]; simp only [upv, z1, Nat.reduceBEq, cond_true, cond_false]) h8t HA.out ⟨ua, uc, z1⟩ HF.out)
                  have h8 : bf 11 = false := Bool.eq_false_iff.2 h8t
                  obtain ⟨hM, j4⟩ := jn h8
                  replace hM := Lib.hid hM
                  rw [HG.out] at j4
                  simp [Region.binds] at haf
                  have e8 := (j4 8 (by simp [haf])).2.1 rfl
                  replace j4 := Lib.hid j4
                  clear haf hfb jn j8
                  obtain ⟨ua, uc, z1, z2⟩ := e8
                  rw [HLIT.out]
                  go_simp
                  exact hK.out _ _ (NY.next (wv := wv) (vs := vs) 10 (by omega) (x := .int .i64 0) (by rw [HLIT.out]; simp only [upv, z1, Nat.reduceBEq, cond_true, cond_false]) h8 (by rw [HG.out]; exact j4.out) hM.out (by rw [HG.out]; exact fun _ _ h => h) (by rw [HG.out]; exact ⟨fun h => absurd h (by decide), fun h => absurd h (by decide), fun h => absurd h (by decide), fun _ _ _ => E10.out.symm⟩))
                · intro bf ac wv hfb haf hJ K' hK
                  obtain ⟨vs, rfl, j8, jn⟩ := hJ
                  replace hK := Lib.hid hK
                  obtain ⟨hM, j4⟩ := jn hfb
                  replace hM := Lib.hid hM
                  rw [HG.out] at j4
                  simp [Region.binds] at haf
                  have HA := Lib.hid (all10 (bf := bf) (by simp [haf]) (by simp [haf]) (by simp [haf]) (by simp [haf]) (by simp [haf]) (by simp [haf]) (by simp [haf]) (by simp [haf]) (by simp [haf]) (by simp [haf]))
                  have e8 := (j4 8 (by simp [haf])).2.1 rfl
                  have e9 := (j4 9 (by simp [haf])).2.2.1 rfl
                  clear haf hfb jn j8
                  have Z8 := Lib.hid (show ∃ ua uc, vs 8 = .tuple #[.agg #[.slice ua rN.length uc], .int .i64 0] from by
                    obtain ⟨ua, uc, q1, -⟩ := e8
                    exact ⟨ua, uc, q1⟩)
                  clear e8
                  obtain ⟨ua, uc, z1, z2⟩ := e9
                  clear j4
                  have Z2 := Lib.hid z2
                  clear z2
                  have C3 := HC1.out.step hM.out
                  have s0 := C3.c 0 rfl
                  have s1 := C3.f 0 (by simp)
                  have s2 := C3.2.2
                  have HC3 := Lib.hid C3
                  clear C3
                  rw [HLIT.out]
                  go_simp
                  exact hK.out _ _ (NY.last (vs := vs) (by rw [HLIT.out]; simp only [z1]) HA.out Z8.out ⟨⟨ua, uc, HC3.out.set 0 (by simp) _ rfl, row_other Z2.out (by omega)⟩, (KS0.out.step hM.out).other (by omega) (by omega), (KS1.out.step hM.out).other (by omega) (by omega), (KS2.out.step hM.out).other (by omega) (by omega), (keep2 hM.out HBr.out).setCell (by have := HSZ2.out; show w.heap.size ≤ u1.heap.size + 1 + 1 + 1; omega) _, by have := hM.out.size; simp; omega⟩)
              · intro bf ac wv hall hJ
                obtain ⟨vs, rfl, j8, -⟩ := hJ
                have hF := (j8 (hall 11 (by decide))).2.2
                clear hall j8
                obtain ⟨f0, f1, f2, f3, f4, f5⟩ := hF
                rw [HLIT.out]
                dsimp only
                replace KS3 := Lib.hid f0
                replace KS0 := Lib.hid f1
                replace KS1 := Lib.hid f2
                replace KS2 := Lib.hid f3
                have HBn := Lib.hid f4
                replace HBr := HBn
                clear HBn f0 f1 f2 f3 f4 HC1 HC2 hW4
                have HZ9 := Lib.hid f5
                clear f5
                obtain ⟨ps, hps⟩ : ∃ us, us = vs := ⟨_, rfl⟩
                rw [← hps]
                clear hps
                replace hr4 : u1.heap.size + 4 ≤ wv.heap.size := HZ9.out
                clear HZ9
                go_wp2
                go_roundw
                case rel => exact ⟨k + 1, oN, bN, lL, rN, by omega, by go_num, ⟨Fo.out, Fb.out, Fr.out⟩, KS0, KS1, KS2, KS3, HBr.out, hr4⟩
                case measure => simp [intOf]; omega
    · obtain ⟨hso1, hso2, hso3⟩ := HSO.out
      rw [show k = l.length by omega] at hso1 hso2 hso3
      rw [List.take_of_length_le (by rw [md_len]; exact Nat.le_refl _)] at hso1 hso3
      rw [List.take_of_length_le (by rw [List.length_reverse, md_len]; exact Nat.le_refl _)] at hso2
      have hob := so_end hso1 hso2
      subst hob
      obtain ⟨m1, m2⟩ := sp_end hso1 hso3 hl
      have M1 := Lib.hid m1
      have M2 := Lib.hid m2
      have SO := Lib.hid hso1.1
      clear m1 m2 hso1 hso2 hso3
      obtain ⟨a0, c0, h01, h02⟩ := KS0.out
      obtain ⟨a1, c1, h11, h12⟩ := KS1.out
      obtain ⟨a2, c2, h21, h22⟩ := KS2.out
      obtain ⟨a3, c3, h31, h32⟩ := KS3.out
      have T0 := Lib.hid (tg_of_row h02)
      have Q0 := Lib.hid h01
      clear h01 h02
      have T1 := Lib.hid (tg_of_row h12)
      have Q1 := Lib.hid h11
      clear h11 h12
      have T2 := Lib.hid (tg_of_row h22)
      have Q2 := Lib.hid h21
      clear h21 h22
      have T3 := Lib.hid (tg_of_row h32)
      have Q3 := Lib.hid h31
      clear h31 h32
      have xQ20 : wr.cell? ⟨u1.heap.size + 1 + 1, 0, none⟩ = some (.slice a2 lL.length c2) := Q2.out.c 0 rfl
      have zQ2 : u1.heap.size + 1 + 1 < wr.heap.size := Q2.out.2.2
      have z2Q2 : u1.heap.size + 1 + 1 < wr.heap.size + 1 := by omega
      have xQ30 : wr.cell? ⟨u1.heap.size + 1 + 1 + 1, 0, none⟩ = some (.slice a3 rL.length c3) := Q3.out.c 0 rfl
      have zQ3 : u1.heap.size + 1 + 1 + 1 < wr.heap.size := Q3.out.2.2
      have z2Q3 : u1.heap.size + 1 + 1 + 1 < wr.heap.size + 1 := by omega
      have hnk : ¬ ((k : Int) < (l.length : Int)) := by omega
      go_wp2_with fail
      refine (merge2_any _ _ lL rL _ T2.out T3.out).mono ?_
      rintro e u24 ⟨⟨um, rfl, hum⟩, b24⟩
      rw [M1.out]
      obtain ⟨ma, mc, rfl, htm⟩ := row_tg hum M2.out rfl
      have HTM := Lib.hid htm
      clear hum htm
      replace T0 := Lib.hid (T0.out.step b24)
      replace T1 := Lib.hid (T1.out.step b24)
      replace T2 := Lib.hid (T2.out.step b24)
      replace T3 := Lib.hid (T3.out.step b24)
      clear xQ20 zQ2 z2Q2 xQ30 zQ3 z2Q3
      have KQ0_801 := Lib.hid (Q0.out.step b24)
      clear Q0
      have KQ1_802 := Lib.hid (Q1.out.step b24)
      clear Q1
      have KQ2_803 := Lib.hid (Q2.out.step b24)
      clear Q2
      have KQ3_804 := Lib.hid (Q3.out.step b24)
      clear Q3
      have HB805 := Lib.hid (keep2 b24 HBr.out)
      clear HBr b24
      replace T0 := Lib.hid (T0.out.step (al u24 (.cells #[.slice ma oL.length mc] 24)))
      replace T1 := Lib.hid (T1.out.step (al u24 (.cells #[.slice ma oL.length mc] 24)))
      replace T2 := Lib.hid (T2.out.step (al u24 (.cells #[.slice ma oL.length mc] 24)))
      replace T3 := Lib.hid (T3.out.step (al u24 (.cells #[.slice ma oL.length mc] 24)))
      replace HTM := Lib.hid (HTM.out.step (al u24 (.cells #[.slice ma oL.length mc] 24)))
      have KQ0_806 := Lib.hid (KQ0_801.out.alloc (.cells #[.slice ma oL.length mc] 24))
      clear KQ0_801
      have KQ1_807 := Lib.hid (KQ1_802.out.alloc (.cells #[.slice ma oL.length mc] 24))
      clear KQ1_802
      have KQ2_808 := Lib.hid (KQ2_803.out.alloc (.cells #[.slice ma oL.length mc] 24))
      clear KQ2_803
      have KQ3_809 := Lib.hid (KQ3_804.out.alloc (.cells #[.slice ma oL.length mc] 24))
      clear KQ3_804
      have KM_810 := Lib.hid (Cs.new u24 (u24.heap.size) #[.slice ma oL.length mc] 24 (by simp))
      have HB811 : Hid (Below w.heap.size w (u24.alloc (.cells #[.slice ma oL.length mc] 24))) := HB805.out.alloc HB805.out.size _
      clear HB805
      have xQ00 : (u24.alloc (.cells #[.slice ma oL.length mc] 24)).cell? ⟨u1.heap.size, 0, none⟩ = some (.slice a0 oL.length c0) := KQ0_806.out.c 0 rfl
      have zQ0 : u1.heap.size < (u24.alloc (.cells #[.slice ma oL.length mc] 24)).heap.size := KQ0_806.out.2.2
      have z2Q0 : u1.heap.size < (u24.alloc (.cells #[.slice ma oL.length mc] 24)).heap.size + 1 := by omega
      have xQ10 : (u24.alloc (.cells #[.slice ma oL.length mc] 24)).cell? ⟨u1.heap.size + 1, 0, none⟩ = some (.slice a1 oL.length c1) := KQ1_807.out.c 0 rfl
      have zQ1 : u1.heap.size + 1 < (u24.alloc (.cells #[.slice ma oL.length mc] 24)).heap.size := KQ1_807.out.2.2
      have z2Q1 : u1.heap.size + 1 < (u24.alloc (.cells #[.slice ma oL.length mc] 24)).heap.size + 1 := by omega
      go_wp2_with fail
      refine (same_any _ _ oL oL _ T0.out.1 T1.out.1).mono ?_
      rintro e u61 ⟨rfl, b61⟩
      replace T0 := Lib.hid (T0.out.step b61)
      replace T1 := Lib.hid (T1.out.step b61)
      replace T2 := Lib.hid (T2.out.step b61)
      replace T3 := Lib.hid (T3.out.step b61)
      replace HTM := Lib.hid (HTM.out.step b61)
      clear xQ00 zQ0 z2Q0 xQ10 zQ1 z2Q1
      have KQ0_812 := Lib.hid (KQ0_806.out.step b61)
      clear KQ0_806
      have KQ1_813 := Lib.hid (KQ1_807.out.step b61)
      clear KQ1_807
      have KQ2_814 := Lib.hid (KQ2_808.out.step b61)
      clear KQ2_808
      have KQ3_815 := Lib.hid (KQ3_809.out.step b61)
      clear KQ3_809
      have KM_816 := Lib.hid (KM_810.out.step b61)
      clear KM_810
      have HB817 := Lib.hid (keep2 b61 HB811.out)
      clear HB811 b61
      rw [decide_eq_true (rfl : oL = oL)]
      have xQ00 : u61.cell? ⟨u1.heap.size, 0, none⟩ = some (.slice a0 oL.length c0) := KQ0_812.out.c 0 rfl
      have zQ0 : u1.heap.size < u61.heap.size := KQ0_812.out.2.2
      have z2Q0 : u1.heap.size < u61.heap.size + 1 := by omega
      have xM0 : u61.cell? ⟨u24.heap.size, 0, none⟩ = some (.slice ma oL.length mc) := KM_816.out.c 0 rfl
      have zM : u24.heap.size < u61.heap.size := KM_816.out.2.2
      have z2M : u24.heap.size < u61.heap.size + 1 := by omega
      go_wp2_with fail
      refine (same_any _ _ oL oL _ T0.out.1 HTM.out.1).mono ?_
      rintro e u62 ⟨rfl, b62⟩
      replace T0 := Lib.hid (T0.out.step b62)
      replace T1 := Lib.hid (T1.out.step b62)
      replace T2 := Lib.hid (T2.out.step b62)
      replace T3 := Lib.hid (T3.out.step b62)
      replace HTM := Lib.hid (HTM.out.step b62)
      clear xQ00 zQ0 z2Q0 xM0 zM z2M
      have KQ0_818 := Lib.hid (KQ0_812.out.step b62)
      clear KQ0_812
      have KQ1_819 := Lib.hid (KQ1_813.out.step b62)
      clear KQ1_813
      have KQ2_820 := Lib.hid (KQ2_814.out.step b62)
      clear KQ2_814
      have KQ3_821 := Lib.hid (KQ3_815.out.step b62)
      clear KQ3_815
      have KM_822 := Lib.hid (KM_816.out.step b62)
      clear KM_816
      have HB823 := Lib.hid (keep2 b62 HB817.out)
      clear HB817 b62
      rw [decide_eq_true (rfl : oL = oL)]
      have xQ00 : u62.cell? ⟨u1.heap.size, 0, none⟩ = some (.slice a0 oL.length c0) := KQ0_818.out.c 0 rfl
      have zQ0 : u1.heap.size < u62.heap.size := KQ0_818.out.2.2
      have z2Q0 : u1.heap.size < u62.heap.size + 1 := by omega
      go_wp2_with fail
      refine (rvalid_any _ oL _ T0.out.1).mono ?_
      rintro e u63 ⟨rfl, b63⟩
      replace T0 := Lib.hid (T0.out.step b63)
      replace T1 := Lib.hid (T1.out.step b63)
      replace T2 := Lib.hid (T2.out.step b63)
      replace T3 := Lib.hid (T3.out.step b63)
      replace HTM := Lib.hid (HTM.out.step b63)
      clear xQ00 zQ0 z2Q0
      have KQ0_824 := Lib.hid (KQ0_818.out.step b63)
      clear KQ0_818
      have KQ1_825 := Lib.hid (KQ1_819.out.step b63)
      clear KQ1_819
      have KQ2_826 := Lib.hid (KQ2_820.out.step b63)
      clear KQ2_820
      have KQ3_827 := Lib.hid (KQ3_821.out.step b63)
      clear KQ3_821
      have KM_828 := Lib.hid (KM_822.out.step b63)
      clear KM_822
      have HB829 := Lib.hid (keep2 b63 HB823.out)
      clear HB823 b63
      rw [SO.out]
      go_wp2
      go_ret
      exact ⟨rfl, HB829.out⟩
theorem order_any (vt : Value) (l : List Int) (vp : Value) (q : List Bool) (w : World) (ht : U32At w vt l) (hp : BosAt w vp q) : Calls Try.prog 6 #[vt, vp] w fun e w' => e = .returned (.bool true) ∧ Below w.heap.size w w' := by
  by_cases hl : l.length ≤ 50
  · exact order_ok vt l vp q w ht hp hl
  · exact order_len vt l vp q w ht hp (by omega)
end Go.Proofs.Ytpoldplmaomkaaa
