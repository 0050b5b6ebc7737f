/- Sets of tags: 'Merge', 'Add', 'Has'. -/
import Derived.Test.YtoaleijfpocdjaaRf
import Derived.Test.YtoaleijfpocdjaaRg
import Derived.Test.YtoaleijfpocdjaaNz
namespace Go.Proofs.Ytoaleijfpocdjaa
open Go.RowKit

/-- What 'Merge' gives. -/
def mgE (a b : List Int) : Int := if stB a && stB b then (if (mg a b).length ≤ 400 then 0 else 30) else 1
def mgL (a b : List Int) : List Int := if mgE a b = 0 then mg a b else []
theorem tg_of_row {w : World} {base : Nat} {v : Value} {xs : List Int} (h : w.ownsRow base 3 1 v xs.length (xs.map (Value.int .i64))) : TgAt w v xs := by
  refine ⟨ints_of_row h, ?_⟩
  rcases h.2 with ⟨rfl, h0⟩ | ⟨g, cap, cur, rfl, _, _, hnc, _⟩
  · exact .inl (List.length_eq_zero_iff.1 h0)
  · exact .inr ⟨g, 0, _, cap, rfl, hnc⟩
theorem tg_nil (w : World) : TgAt w (.slice none 0 0) [] := ⟨ints_nil w, .inl rfl⟩
theorem tg_one (w : World) (n : Int) (b : Nat) (hb : b = w.heap.size) : TgAt (w.alloc (.cells #[.int .i64 n] 3)) (.slice (some ⟨b, 0, none⟩) 1 1) [n] := ⟨ints_lit w [n] _ 3 rfl (by simp) 1 rfl _ hb, .inr ⟨_, _, _, _, rfl, Nat.le_refl _⟩⟩
/-- A region that makes memory and, last, stores: what each operation's value is. -/
def NR (n : Nat) (lit : (Nat → Value) → Act) (W : World) (G : Nat → Value → World → Prop) (Fin : (Nat → Value) → World → Prop) (bf : Nat → Bool) (ac : Act) (wv : World) : Prop :=
  ∃ vs, ac = lit vs ∧ (bf n = true → (∀ i, i < n → bf i = true) ∧ Fin vs wv) ∧ (bf n = false → Below W.heap.size W wv ∧ ∀ i, bf i = true → G i (vs i) wv)
theorem NR.next {n : Nat} {lit : (Nat → Value) → Act} {W : World} {G : Nat → Value → World → Prop} {Fin : (Nat → Value) → World → Prop} {bf : Nat → Bool} {wv : World} {vs : Nat → Value} (i : Nat) (hi : i < n) {x : Value} {w' : World} {ac' : Act} (hac : ac' = lit (upv vs i x)) (h8 : bf n = false)
    (k : ∀ i, bf i = true → G i (vs i) wv) (hb : Below W.heap.size W w') (hs : ∀ k v, G k v wv → G k v w') (hx : G i x w') : NR n lit W G Fin (up bf i) ac' w' := by
  refine ⟨upv vs i x, hac, fun h => ?_, fun _ => ⟨hb, fun j hu => ?_⟩⟩
  · rw [up_ne _ _ _ (by omega), h8] at h; cases h
  · by_cases e : j = i
    · subst e; rw [upv_same]; exact hx
    · rw [up_ne _ _ _ e] at hu; rw [upv_ne _ _ _ _ e]; exact hs _ _ (k j hu)
theorem NR.last {n : Nat} {lit : (Nat → Value) → Act} {W : World} {G : Nat → Value → World → Prop} {Fin : (Nat → Value) → World → Prop} {bf : Nat → Bool} {w' : World} {vs : Nat → Value} {ac' : Act} (hac : ac' = lit vs) (ha : ∀ i, i < n → bf i = true) (hF : Fin vs w') : NR n lit W G Fin (up bf n) ac' w' := by
  refine ⟨vs, hac, fun _ => ⟨fun i hi => (by rw [up_ne _ _ _ (by omega)]; exact ha i hi), hF⟩, fun h => ?_⟩
  rw [up_same] at h; cases h
theorem row_set {w : World} {base e s n g j : Nat} {v x : Value} {xs : List Value} (h : w.ownsRow base e s v n xs) (hne : v.ownBlock ≠ some g) : (w.setCell ⟨g, j, none⟩ x).ownsRow base e s v n xs := by
  refine ⟨h.1, ?_⟩
  rcases h.2 with h0 | ⟨g', cap, cur, h1, h2, h3, h4⟩
  · exact .inl h0
  · have : g' ≠ g := fun e => hne (by rw [h1, e]; rfl)
    exact .inr ⟨g', cap, cur, h1, h2, (Below.heap_setCell w ⟨g, j, none⟩ x g' this).trans h3, h4⟩
theorem rowbox2 {w : World} {base g n : Nat} {v x y : Value} {vs : Array Value} {xs : List Int} (h : w.ownsRow base 3 1 v n (xs.map (Value.int .i64))) (hb : BoxN w g vs 55) : ((w.setCell ⟨g, 0, none⟩ x).setCell ⟨g, 1, none⟩ y).ownsRow base 3 1 v n (xs.map (Value.int .i64)) :=
  row_set (row_set h (row_type h hb (by decide))) (row_type h hb (by decide))
theorem all6 {bf : Nat → Bool} (h0 : bf 0 = true) (h1 : bf 1 = true) (h2 : bf 2 = true) (h3 : bf 3 = true) (h4 : bf 4 = true) (h5 : bf 5 = true) : ∀ i, i < 6 → bf i = true := fun i hi => by
  rcases i with _ | _ | _ | _ | _ | _ | i
  · exact h0
  · exact h1
  · exact h2
  · exact h3
  · exact h4
  · exact h5
  · omega
set_option maxRecDepth 100000 in
set_option maxHeartbeats 2000000 in
theorem merge_bad1 (va vb : Value) (l m : List Int) (w : World) (h : TgAt w va l) (h' : TgAt w vb m) (h1 : stB l = false) : Calls Try.prog 7 #[.agg #[va], .agg #[vb]] w fun e w' => e = .returned (.tuple #[.agg #[.slice none 0 0], .int .i64 1]) ∧ Below w.heap.size w w' := by
  have H := Lib.hid h
  have H' := Lib.hid h'
  obtain ⟨⟨a, cap, rfl, -, -⟩, -⟩ := h
  obtain ⟨⟨a', cap', rfl, -, -⟩, -⟩ := h'
  have S1 := Lib.hid h1
  clear h1
  have HB0 := Lib.hid (Below.refl w.heap.size w)
  go_enter Try.func7, Try.ntmps7
  have KA_1 := Lib.hid (Cs.new w (w.heap.size) #[.slice a l.length cap] 34 (by simp))
  have HB2 : Hid (Below w.heap.size w (w.alloc (.cells #[.slice a l.length cap] 34))) := HB0.out.alloc HB0.out.size _
  clear HB0
  have KA_3 := Lib.hid (KA_1.out.alloc (.cells #[.slice a' m.length cap'] 34))
  clear KA_1
  have KB_4 := Lib.hid (Cs.new (w.alloc (.cells #[.slice a l.length cap] 34)) (w.heap.size + 1) #[.slice a' m.length cap'] 34 (by simp))
  have HB5 : Hid (Below w.heap.size w ((w.alloc (.cells #[.slice a l.length cap] 34)).alloc (.cells #[.slice a' m.length cap'] 34))) := HB2.out.alloc HB2.out.size _
  clear HB2
  have KA_6 := Lib.hid (KA_3.out.alloc (.cells #[.slice none 0 0] 34))
  clear KA_3
  have KB_7 := Lib.hid (KB_4.out.alloc (.cells #[.slice none 0 0] 34))
  clear KB_4
  have KR_8 := Lib.hid (Cs.new ((w.alloc (.cells #[.slice a l.length cap] 34)).alloc (.cells #[.slice a' m.length cap'] 34)) (w.heap.size + 1 + 1) #[.slice none 0 0] 34 (by simp))
  have HB9 : Hid (Below w.heap.size w (((w.alloc (.cells #[.slice a l.length cap] 34)).alloc (.cells #[.slice a' m.length cap'] 34)).alloc (.cells #[.slice none 0 0] 34))) := HB5.out.alloc HB5.out.size _
  clear HB5
  have xA0 : (((w.alloc (.cells #[.slice a l.length cap] 34)).alloc (.cells #[.slice a' m.length cap'] 34)).alloc (.cells #[.slice none 0 0] 34)).cell? ⟨w.heap.size, 0, none⟩ = some (.slice a l.length cap) := KA_6.out.c 0 rfl
  have zA : w.heap.size < (((w.alloc (.cells #[.slice a l.length cap] 34)).alloc (.cells #[.slice a' m.length cap'] 34)).alloc (.cells #[.slice none 0 0] 34)).heap.size := KA_6.out.2.2
  have z2A : w.heap.size < (((w.alloc (.cells #[.slice a l.length cap] 34)).alloc (.cells #[.slice a' m.length cap'] 34)).alloc (.cells #[.slice none 0 0] 34)).heap.size + 1 := by omega
  go_wp2_with fail
  refine (isSet_any _ l _ (H.out.step HB9.out).1).mono ?_
  rintro e u1 ⟨rfl, b1⟩
  clear xA0 zA z2A
  have KA_10 := Lib.hid (KA_6.out.step b1)
  clear KA_6
  have KB_11 := Lib.hid (KB_7.out.step b1)
  clear KB_7
  have KR_12 := Lib.hid (KR_8.out.step b1)
  clear KR_8
  have HB13 := Lib.hid (keep2 b1 HB9.out)
  clear HB9 b1
  rw [S1.out]
  have xR0 : u1.cell? ⟨w.heap.size + 1 + 1, 0, none⟩ = some (.slice none 0 0) := KR_12.out.c 0 rfl
  have yR0 : u1.frozen? ⟨w.heap.size + 1 + 1, 0, none⟩ = false := KR_12.out.f 0 (by simp)
  have zR : w.heap.size + 1 + 1 < u1.heap.size := KR_12.out.2.2
  have z2R : w.heap.size + 1 + 1 < u1.heap.size + 1 := by omega
  go_wp2
  exact bodyPost_ret (v := .tuple #[.agg #[.slice none 0 0], .int .i64 1]) (by simp [results, Try.results7, go_sem, xR0]) rfl ⟨rfl, (by repeat (first | with_reducible exact HB13.out | with_reducible exact Below.refl _ _ | ((with_reducible refine Below.setCell ?_ ?_ _); rotate_left; focus (first | (simp; done) | (simp; omega) | omega)) | ((with_reducible refine Below.alloc ?_ ?_ _); rotate_left; focus (first | (simp; done) | (simp; omega) | omega)) | with_reducible refine Below.trans ?_ (below_drewN' _ _ _) | with_reducible refine Below.trans ?_ (below_drew _ _)))⟩
set_option maxRecDepth 100000 in
set_option maxHeartbeats 2000000 in
theorem merge_bad2 (va vb : Value) (l m : List Int) (w : World) (h : TgAt w va l) (h' : TgAt w vb m) (h1 : stB l = true) (h2 : stB m = false) : Calls Try.prog 7 #[.agg #[va], .agg #[vb]] w fun e w' => e = .returned (.tuple #[.agg #[.slice none 0 0], .int .i64 1]) ∧ Below w.heap.size w w' := by
  have H := Lib.hid h
  have H' := Lib.hid h'
  obtain ⟨⟨a, cap, rfl, -, -⟩, -⟩ := h
  obtain ⟨⟨a', cap', rfl, -, -⟩, -⟩ := h'
  have S1 := Lib.hid h1
  clear h1
  have S2 := Lib.hid h2
  clear h2
  have HB0 := Lib.hid (Below.refl w.heap.size w)
  go_enter Try.func7, Try.ntmps7
  have KA_1 := Lib.hid (Cs.new w (w.heap.size) #[.slice a l.length cap] 34 (by simp))
  have HB2 : Hid (Below w.heap.size w (w.alloc (.cells #[.slice a l.length cap] 34))) := HB0.out.alloc HB0.out.size _
  clear HB0
  have KA_3 := Lib.hid (KA_1.out.alloc (.cells #[.slice a' m.length cap'] 34))
  clear KA_1
  have KB_4 := Lib.hid (Cs.new (w.alloc (.cells #[.slice a l.length cap] 34)) (w.heap.size + 1) #[.slice a' m.length cap'] 34 (by simp))
  have HB5 : Hid (Below w.heap.size w ((w.alloc (.cells #[.slice a l.length cap] 34)).alloc (.cells #[.slice a' m.length cap'] 34))) := HB2.out.alloc HB2.out.size _
  clear HB2
  have KA_6 := Lib.hid (KA_3.out.alloc (.cells #[.slice none 0 0] 34))
  clear KA_3
  have KB_7 := Lib.hid (KB_4.out.alloc (.cells #[.slice none 0 0] 34))
  clear KB_4
  have KR_8 := Lib.hid (Cs.new ((w.alloc (.cells #[.slice a l.length cap] 34)).alloc (.cells #[.slice a' m.length cap'] 34)) (w.heap.size + 1 + 1) #[.slice none 0 0] 34 (by simp))
  have HB9 : Hid (Below w.heap.size w (((w.alloc (.cells #[.slice a l.length cap] 34)).alloc (.cells #[.slice a' m.length cap'] 34)).alloc (.cells #[.slice none 0 0] 34))) := HB5.out.alloc HB5.out.size _
  clear HB5
  have xA0 : (((w.alloc (.cells #[.slice a l.length cap] 34)).alloc (.cells #[.slice a' m.length cap'] 34)).alloc (.cells #[.slice none 0 0] 34)).cell? ⟨w.heap.size, 0, none⟩ = some (.slice a l.length cap) := KA_6.out.c 0 rfl
  have zA : w.heap.size < (((w.alloc (.cells #[.slice a l.length cap] 34)).alloc (.cells #[.slice a' m.length cap'] 34)).alloc (.cells #[.slice none 0 0] 34)).heap.size := KA_6.out.2.2
  have z2A : w.heap.size < (((w.alloc (.cells #[.slice a l.length cap] 34)).alloc (.cells #[.slice a' m.length cap'] 34)).alloc (.cells #[.slice none 0 0] 34)).heap.size + 1 := by omega
  go_wp2_with fail
  refine (isSet_any _ l _ (H.out.step HB9.out).1).mono ?_
  rintro e u1 ⟨rfl, b1⟩
  clear xA0 zA z2A
  have KA_10 := Lib.hid (KA_6.out.step b1)
  clear KA_6
  have KB_11 := Lib.hid (KB_7.out.step b1)
  clear KB_7
  have KR_12 := Lib.hid (KR_8.out.step b1)
  clear KR_8
  have HB13 := Lib.hid (keep2 b1 HB9.out)
  clear HB9 b1
  rw [S1.out]
  have xB0 : u1.cell? ⟨w.heap.size + 1, 0, none⟩ = some (.slice a' m.length cap') := KB_11.out.c 0 rfl
  have zB : w.heap.size + 1 < u1.heap.size := KB_11.out.2.2
  have z2B : w.heap.size + 1 < u1.heap.size + 1 := by omega
  go_wp2_with fail
  refine (isSet_any _ m _ (H'.out.step HB13.out).1).mono ?_
  rintro e u2 ⟨rfl, b2⟩
  clear xB0 zB z2B
  have KA_14 := Lib.hid (KA_10.out.step b2)
  clear KA_10
  have KB_15 := Lib.hid (KB_11.out.step b2)
  clear KB_11
  have KR_16 := Lib.hid (KR_12.out.step b2)
  clear KR_12
  have HB17 := Lib.hid (keep2 b2 HB13.out)
  clear HB13 b2
  rw [S2.out]
  have xR0 : u2.cell? ⟨w.heap.size + 1 + 1, 0, none⟩ = some (.slice none 0 0) := KR_16.out.c 0 rfl
  have yR0 : u2.frozen? ⟨w.heap.size + 1 + 1, 0, none⟩ = false := KR_16.out.f 0 (by simp)
  have zR : w.heap.size + 1 + 1 < u2.heap.size := KR_16.out.2.2
  have z2R : w.heap.size + 1 + 1 < u2.heap.size + 1 := by omega
  go_wp2
  exact bodyPost_ret (v := .tuple #[.agg #[.slice none 0 0], .int .i64 1]) (by simp [results, Try.results7, go_sem, xR0]) rfl ⟨rfl, (by repeat (first | with_reducible exact HB17.out | with_reducible exact Below.refl _ _ | ((with_reducible refine Below.setCell ?_ ?_ _); rotate_left; focus (first | (simp; done) | (simp; omega) | omega)) | ((with_reducible refine Below.alloc ?_ ?_ _); rotate_left; focus (first | (simp; done) | (simp; omega) | omega)) | with_reducible refine Below.trans ?_ (below_drewN' _ _ _) | with_reducible refine Below.trans ?_ (below_drew _ _)))⟩
set_option maxRecDepth 100000 in
set_option maxHeartbeats 2000000 in
theorem merge_main (va vb : Value) (l m : List Int) (w : World) (h : TgAt w va l) (h' : TgAt w vb m) (h1 : stB l = true) (h2 : stB m = true) : Calls Try.prog 7 #[.agg #[va], .agg #[vb]] w fun e w' => (∃ u, e = .returned (.tuple #[.agg #[u], .int .i64 (mgE l m)]) ∧ w'.ownsRow w.heap.size 3 1 u (mgL l m).length ((mgL l m).map (Value.int .i64))) ∧ Below w.heap.size w w' := by
  have H := Lib.hid h
  have H' := Lib.hid h'
  obtain ⟨⟨a, cap, rfl, -, -⟩, -⟩ := h
  obtain ⟨⟨a', cap', rfl, -, -⟩, -⟩ := h'
  have S1 := Lib.hid h1
  clear h1
  have S2 := Lib.hid h2
  clear h2
  have HB0 := Lib.hid (Below.refl w.heap.size w)
  go_enter Try.func7, Try.ntmps7
  have KA_1 := Lib.hid (Cs.new w (w.heap.size) #[.slice a l.length cap] 34 (by simp))
  have HB2 : Hid (Below w.heap.size w (w.alloc (.cells #[.slice a l.length cap] 34))) := HB0.out.alloc HB0.out.size _
  clear HB0
  have KA_3 := Lib.hid (KA_1.out.alloc (.cells #[.slice a' m.length cap'] 34))
  clear KA_1
  have KB_4 := Lib.hid (Cs.new (w.alloc (.cells #[.slice a l.length cap] 34)) (w.heap.size + 1) #[.slice a' m.length cap'] 34 (by simp))
  have HB5 : Hid (Below w.heap.size w ((w.alloc (.cells #[.slice a l.length cap] 34)).alloc (.cells #[.slice a' m.length cap'] 34))) := HB2.out.alloc HB2.out.size _
  clear HB2
  have KA_6 := Lib.hid (KA_3.out.alloc (.cells #[.slice none 0 0] 34))
  clear KA_3
  have KB_7 := Lib.hid (KB_4.out.alloc (.cells #[.slice none 0 0] 34))
  clear KB_4
  have KR_8 := Lib.hid (Cs.new ((w.alloc (.cells #[.slice a l.length cap] 34)).alloc (.cells #[.slice a' m.length cap'] 34)) (w.heap.size + 1 + 1) #[.slice none 0 0] 34 (by simp))
  have HB9 : Hid (Below w.heap.size w (((w.alloc (.cells #[.slice a l.length cap] 34)).alloc (.cells #[.slice a' m.length cap'] 34)).alloc (.cells #[.slice none 0 0] 34))) := HB5.out.alloc HB5.out.size _
  clear HB5
  have xA0 : (((w.alloc (.cells #[.slice a l.length cap] 34)).alloc (.cells #[.slice a' m.length cap'] 34)).alloc (.cells #[.slice none 0 0] 34)).cell? ⟨w.heap.size, 0, none⟩ = some (.slice a l.length cap) := KA_6.out.c 0 rfl
  have zA : w.heap.size < (((w.alloc (.cells #[.slice a l.length cap] 34)).alloc (.cells #[.slice a' m.length cap'] 34)).alloc (.cells #[.slice none 0 0] 34)).heap.size := KA_6.out.2.2
  have z2A : w.heap.size < (((w.alloc (.cells #[.slice a l.length cap] 34)).alloc (.cells #[.slice a' m.length cap'] 34)).alloc (.cells #[.slice none 0 0] 34)).heap.size + 1 := by omega
  go_wp2_with fail
  refine (isSet_any _ l _ (H.out.step HB9.out).1).mono ?_
  rintro e u1 ⟨rfl, b1⟩
  clear xA0 zA z2A
  have KA_10 := Lib.hid (KA_6.out.step b1)
  clear KA_6
  have KB_11 := Lib.hid (KB_7.out.step b1)
  clear KB_7
  have KR_12 := Lib.hid (KR_8.out.step b1)
  clear KR_8
  have HB13 := Lib.hid (keep2 b1 HB9.out)
  clear HB9 b1
  rw [S1.out]
  have xB0 : u1.cell? ⟨w.heap.size + 1, 0, none⟩ = some (.slice a' m.length cap') := KB_11.out.c 0 rfl
  have zB : w.heap.size + 1 < u1.heap.size := KB_11.out.2.2
  have z2B : w.heap.size + 1 < u1.heap.size + 1 := by omega
  go_wp2_with fail
  refine (isSet_any _ m _ (H'.out.step HB13.out).1).mono ?_
  rintro e u2 ⟨rfl, b2⟩
  clear xB0 zB z2B
  have KA_14 := Lib.hid (KA_10.out.step b2)
  clear KA_10
  have KB_15 := Lib.hid (KB_11.out.step b2)
  clear KB_11
  have KR_16 := Lib.hid (KR_12.out.step b2)
  clear KR_12
  have HB17 := Lib.hid (keep2 b2 HB13.out)
  clear HB13 b2
  rw [S2.out]
  go_wp2_with fail
  obtain ⟨lit, hlit⟩ : ∃ lit : (Nat → Value) → Act, lit = fun vs => { tmps := List.toArray (Value.agg #[Value.slice a l.length cap] :: Value.agg #[Value.slice a' m.length cap'] :: Value.pointer (some { block := w.heap.size, off := 0 }) :: Value.pointer (some { block := w.heap.size + 1, off := 0 }) :: Value.pointer (some { block := w.heap.size + 1 + 1, off := 0 }) :: Value.int IntKind.i64 0 :: vs 5 :: Value.agg #[Value.slice a l.length cap] :: Value.bool true :: Value.bool false :: Value.bool false :: Value.agg #[Value.slice a' m.length cap'] :: Value.bool true :: Value.bool false :: Value.bool false :: undef :: vs 0 :: vs 1 :: vs 2 :: vs 3 :: vs 4 :: undef :: undef :: undef :: undef :: undef :: undef :: undef :: undef :: []), defers := [] } := ⟨_, rfl⟩
  have HLIT := Lib.hid hlit
  clear hlit
  obtain ⟨val, hval⟩ : ∃ val : List Value, val = [.agg #[.slice a l.length cap], .agg #[.slice a l.length cap, .func (.func 41) #[] #[]], .agg #[.slice a' m.length cap'], .agg #[.slice a' m.length cap', .func (.func 41) #[] #[]], undef, undef, undef] := ⟨_, rfl⟩
  have E0 := Lib.hid (show val.getD 0 undef = .agg #[.slice a l.length cap] by rw [hval]; rfl)
  have E1 := Lib.hid (show val.getD 1 undef = .agg #[.slice a l.length cap, .func (.func 41) #[] #[]] by rw [hval]; rfl)
  have E2 := Lib.hid (show val.getD 2 undef = .agg #[.slice a' m.length cap'] by rw [hval]; rfl)
  have E3 := Lib.hid (show val.getD 3 undef = .agg #[.slice a' m.length cap', .func (.func 41) #[] #[]] by rw [hval]; rfl)
  clear hval
  obtain ⟨G, hG0⟩ : ∃ G : Nat → Value → World → Prop, G = (fun i v w => (i = 4 → ∃ ua uc, v = .agg #[.slice ua (mg l m).length uc, .func (.func 41) #[] #[]] ∧ w.ownsRow u2.heap.size 3 1 (.slice ua (mg l m).length uc) (mg l m).length ((mg l m).map (Value.int .i64))) ∧ (i = 5 → ∃ g, v = .pointer (some ⟨g, 0, none⟩) ∧ u2.heap.size ≤ g ∧ BoxN w g #[.slice none 0 0, .nilFunc] 55) ∧ (i ≠ 4 → i ≠ 5 → v = val.getD i undef)) := ⟨_, rfl⟩
  have HG := Lib.hid hG0
  clear hG0
  refine region_inv (NR 6 lit u2 G (fun vs wv => ∃ g ua uc, vs 5 = .pointer (some ⟨g, 0, none⟩) ∧ u2.heap.size ≤ g ∧ Cs wv g #[.slice ua (mg l m).length uc, .func (.func 41) #[] #[]] ∧ wv.ownsRow u2.heap.size 3 1 (.slice ua (mg l m).length uc) (mg l m).length ((mg l m).map (Value.int .i64)) ∧ Below u2.heap.size u2 wv)) (by kernel_rfl) (by decide +kernel) ?_ ?_ ?_
  · exact ⟨fun i => ([undef, undef, undef, undef, undef, undef, undef] : List Value).getD i undef, (by rw [HLIT.out]; rfl), fun h => (by cases h), fun _ => ⟨below_drew _ _, fun i h => by cases h⟩⟩
  · refine ⟨?_, ?_, ?_, ?_, ?_, ?_, ?_, trivial⟩
    · intro bf ac wv hfb haf hJ K' hK
      obtain ⟨vs, rfl, j8, jn⟩ := hJ
      replace hK := Lib.hid hK
      have h8 : bf 6 = false := Bool.eq_false_iff.2 fun h => absurd (((j8 h).1 0 (by omega)).symm.trans hfb) (by simp)
      obtain ⟨hM, j4⟩ := jn h8
      replace hM := Lib.hid hM
      rw [HG.out] at j4
      replace j4 := Lib.hid j4
      clear haf hfb jn j8
      have K1 := KA_14.out.step hM.out
      have x0 := K1.c 0 rfl
      have xz := K1.2.2
      clear K1
      rw [HLIT.out]
      go_simp
      exact hK.out _ _ (NR.next (wv := wv) (vs := vs) 0 (by omega) (x := .agg #[.slice a l.length cap]) (by rw [HLIT.out]; rfl) h8 (by rw [HG.out]; exact j4.out) hM.out (by rw [HG.out]; exact fun _ _ h => h) (by rw [HG.out]; exact ⟨fun h => absurd h (by decide), fun h => absurd h (by decide), fun _ _ => E0.out.symm⟩))
    · intro bf ac wv hfb haf hJ K' hK
      obtain ⟨vs, rfl, j8, jn⟩ := hJ
      replace hK := Lib.hid hK
      have h8 : bf 6 = false := Bool.eq_false_iff.2 fun h => absurd (((j8 h).1 1 (by omega)).symm.trans hfb) (by simp)
      obtain ⟨hM, j4⟩ := jn h8
      replace hM := Lib.hid hM
      rw [HG.out] at j4
      simp [Region.binds] at haf
      have e0 := ((j4 0 (by simp [haf])).2.2 (by decide) (by decide)).trans E0.out
      replace j4 := Lib.hid j4
      clear haf hfb jn j8
      rw [HLIT.out]
      go_simp
      go_at_call 19
      refine (tagsOf_any _ l _ ((H.out.step HB17.out).step hM.out).1).mono ?_
      rintro e w4 ⟨rfl, b4⟩
      exact hK.out _ _ (NR.next (wv := wv) (vs := vs) 1 (by omega) (x := .agg #[.slice a l.length cap, .func (.func 41) #[] #[]]) (by rw [HLIT.out]; simp only [upv, e0, Nat.reduceBEq, cond_true, cond_false]) h8 (by rw [HG.out]; exact j4.out) (keep2 b4 hM.out) (by rw [HG.out]; exact fun k v h => ⟨fun q => (by
        obtain ⟨ua, uc, q1, q2⟩ := h.1 q
        exact ⟨ua, uc, q1, row_step q2 b4⟩), fun q => (by
        obtain ⟨g, q1, q2, q3⟩ := h.2.1 q
        exact ⟨g, q1, q2, q3.step b4⟩), h.2.2⟩) (by rw [HG.out]; exact ⟨fun h => absurd h (by decide), fun h => absurd h (by decide), fun _ _ => E1.out.symm⟩))
    · intro bf ac wv hfb haf hJ K' hK
      obtain ⟨vs, rfl, j8, jn⟩ := hJ
      replace hK := Lib.hid hK
      have h8 : bf 6 = false := Bool.eq_false_iff.2 fun h => absurd (((j8 h).1 2 (by omega)).symm.trans hfb) (by simp)
      obtain ⟨hM, j4⟩ := jn h8
      replace hM := Lib.hid hM
      rw [HG.out] at j4
      replace j4 := Lib.hid j4
      clear haf hfb jn j8
      have K1 := KB_15.out.step hM.out
      have x0 := K1.c 0 rfl
      have xz := K1.2.2
      clear K1
      rw [HLIT.out]
      go_simp
      exact hK.out _ _ (NR.next (wv := wv) (vs := vs) 2 (by omega) (x := .agg #[.slice a' m.length cap']) (by rw [HLIT.out]; rfl) h8 (by rw [HG.out]; exact j4.out) hM.out (by rw [HG.out]; exact fun _ _ h => h) (by rw [HG.out]; exact ⟨fun h => absurd h (by decide), fun h => absurd h (by decide), fun _ _ => E2.out.symm⟩))
    · intro bf ac wv hfb haf hJ K' hK
      obtain ⟨vs, rfl, j8, jn⟩ := hJ
      replace hK := Lib.hid hK
      have h8 : bf 6 = false := Bool.eq_false_iff.2 fun h => absurd (((j8 h).1 3 (by omega)).symm.trans hfb) (by simp)
      obtain ⟨hM, j4⟩ := jn h8
      replace hM := Lib.hid hM
      rw [HG.out] at j4
      simp [Region.binds] at haf
      have e2 := ((j4 2 (by simp [haf])).2.2 (by decide) (by decide)).trans E2.out
      replace j4 := Lib.hid j4
      clear haf hfb jn j8
      rw [HLIT.out]
      go_simp
      go_at_call 19
      refine (tagsOf_any _ m _ ((H'.out.step HB17.out).step hM.out).1).mono ?_
      rintro e w4 ⟨rfl, b4⟩
      exact hK.out _ _ (NR.next (wv := wv) (vs := vs) 3 (by omega) (x := .agg #[.slice a' m.length cap', .func (.func 41) #[] #[]]) (by rw [HLIT.out]; simp only [upv, e2, Nat.reduceBEq, cond_true, cond_false]) h8 (by rw [HG.out]; exact j4.out) (keep2 b4 hM.out) (by rw [HG.out]; exact fun k v h => ⟨fun q => (by
        obtain ⟨ua, uc, q1, q2⟩ := h.1 q
        exact ⟨ua, uc, q1, row_step q2 b4⟩), fun q => (by
        obtain ⟨g, q1, q2, q3⟩ := h.2.1 q
        exact ⟨g, q1, q2, q3.step b4⟩), h.2.2⟩) (by rw [HG.out]; exact ⟨fun h => absurd h (by decide), fun h => absurd h (by decide), fun _ _ => E3.out.symm⟩))
    · intro bf ac wv hfb haf hJ K' hK
      obtain ⟨vs, rfl, j8, jn⟩ := hJ
      replace hK := Lib.hid hK
      have h8 : bf 6 = false := Bool.eq_false_iff.2 fun h => absurd (((j8 h).1 4 (by omega)).symm.trans hfb) (by simp)
      obtain ⟨hM, j4⟩ := jn h8
      replace hM := Lib.hid hM
      rw [HG.out] at j4
      simp [Region.binds] at haf
      have e1 := ((j4 1 (by simp [haf])).2.2 (by decide) (by decide)).trans E1.out
      have e3 := ((j4 3 (by simp [haf])).2.2 (by decide) (by decide)).trans E3.out
      replace j4 := Lib.hid j4
      clear haf hfb jn j8
      rw [HLIT.out]
      go_simp
      go_at_call 20
      refine (merge_any _ _ l m _ ((H.out.step HB17.out).step hM.out).1 ((H'.out.step HB17.out).step hM.out) (st_iff.1 S1.out).1.1 (st_iff.1 S2.out).1.1 (by have := (st_iff.1 S1.out).2; omega) (by have := (st_iff.1 S2.out).2; omega)).mono ?_
      rintro e w4 ⟨u, rfl, hu, b4⟩
      obtain ⟨ua, uc, rfl⟩ := row_slice hu
      exact hK.out _ _ (NR.next (wv := wv) (vs := vs) 4 (by omega) (x := .agg #[.slice ua (mg l m).length uc, .func (.func 41) #[] #[]]) (by rw [HLIT.out]; simp only [upv, e1, e3, Nat.reduceBEq, cond_true, cond_false]) h8 (by rw [HG.out]; exact j4.out) (keep2 b4 hM.out) (by rw [HG.out]; exact fun k v h => ⟨fun q => (by
        obtain ⟨ua, uc, q1, q2⟩ := h.1 q
        exact ⟨ua, uc, q1, row_step q2 b4⟩), fun q => (by
        obtain ⟨g, q1, q2, q3⟩ := h.2.1 q
        exact ⟨g, q1, q2, q3.step b4⟩), h.2.2⟩) (by rw [HG.out]; exact ⟨fun _ => ⟨ua, uc, rfl, row_base hu hM.out.size⟩, fun h => absurd h (by decide), fun h4 => absurd rfl h4⟩))
    · intro bf ac wv hfb haf hJ K' hK
      obtain ⟨vs, rfl, j8, jn⟩ := hJ
      replace hK := Lib.hid hK
      have h8 : bf 6 = false := Bool.eq_false_iff.2 fun h => absurd (((j8 h).1 5 (by omega)).symm.trans hfb) (by simp)
      obtain ⟨hM, j4⟩ := jn h8
      replace hM := Lib.hid hM
      rw [HG.out] at j4
      replace j4 := Lib.hid j4
      clear haf hfb jn j8
      rw [HLIT.out]
      go_simp
      have b4 := al wv (.cells #[.slice none 0 0, .nilFunc] 55)
      exact hK.out _ _ (NR.next (wv := wv) (vs := vs) 5 (by omega) (x := .pointer (some ⟨wv.heap.size, 0, none⟩)) (by rw [HLIT.out]; rfl) h8 (by rw [HG.out]; exact j4.out) (keep2 b4 hM.out) (by rw [HG.out]; exact fun k v h => ⟨fun q => (by
        obtain ⟨ua, uc, q1, q2⟩ := h.1 q
        exact ⟨ua, uc, q1, row_step q2 b4⟩), fun q => (by
        obtain ⟨g, q1, q2, q3⟩ := h.2.1 q
        exact ⟨g, q1, q2, q3.step b4⟩), h.2.2⟩) (by rw [HG.out]; exact ⟨fun h => absurd h (by decide), fun _ => ⟨_, rfl, hM.out.size, BoxN.new _ _ _⟩, fun h4 => fun h5 => absurd rfl h5⟩))
    · intro bf ac wv hfb haf hJ K' hK
      obtain ⟨vs, rfl, j8, jn⟩ := hJ
      replace hK := Lib.hid hK
      obtain ⟨hM, j4⟩ := jn hfb
      replace hM := Lib.hid hM
      rw [HG.out] at j4
      simp [Region.binds] at haf
      have HA := Lib.hid (all6 (bf := bf) (by simp [haf]) (by simp [haf]) (by simp [haf]) (by simp [haf]) (by simp [haf]) (by simp [haf]))
      have e4 := (j4 4 (by simp [haf])).1 rfl
      have e5 := (j4 5 (by simp [haf])).2.1 rfl
      clear haf hfb jn j8
      obtain ⟨ua, uc, q1, q2⟩ := e4
      obtain ⟨g, q3, q4, q5⟩ := e5
      clear j4
      have HQ2 := Lib.hid q2
      have HQ5 := Lib.hid q5
      have y0 := q5.cs.c 0 rfl
      have y1 := q5.cs.c 1 rfl
      have y2 := q5.cs.f 0 (by simp)
      have y3 := q5.cs.f 1 (by simp)
      have y4 := q5.cs.2.2
      clear q2 q5
      replace q4 := Lib.hid q4
      rw [HLIT.out]
      go_simp
      exact hK.out _ _ (NR.last (vs := vs) (by rw [HLIT.out]; simp only [q1, q3]) HA.out ⟨g, ua, uc, q3, q4.out, (HQ5.out.cs.set 0 (by simp) _ rfl).set 1 (by simp) _ rfl, rowbox2 HQ2.out HQ5.out, (hM.out.setCell q4.out _).setCell q4.out _⟩)
  · intro bf ac wv hall hJ
    obtain ⟨vs, rfl, j8, -⟩ := hJ
    have hF := (j8 (hall 6 (by decide))).2
    clear hall j8
    obtain ⟨g, ua, uc, h5, hg, hc, hr, hb⟩ := hF
    rw [HLIT.out]
    dsimp only
    rw [h5]
    clear h5
    have HC := Lib.hid hc
    have HRW := Lib.hid hr
    have KR := Lib.hid (KR_16.out.step hb)
    have HB9 := Lib.hid (keep2 hb HB17.out)
    have hgr : w.heap.size + 1 + 1 ≠ g := by have := KR_16.out.2.2; omega
    have HBS := Lib.hid (HB17.out.size)
    have HRZ := Lib.hid (KR_16.out.2.2)
    clear hc hr hb hg HB17 KA_14 KB_15 KR_16
    have x0 := HC.out.c 0 rfl
    have xz := HC.out.2.2
    have y0 := KR.out.c 0 rfl
    have y1 := KR.out.f 0 (by simp)
    have yz := KR.out.2.2
    by_cases hn : (mg l m).length ≤ 400
    · have g1 : decide (((mg l m).length : Int) > 400) = false := by simp; omega
      have g2 : decide ((400 : Int) < ((mg l m).length : Int)) = false := by simp; omega
      have HE := Lib.hid (show mgE l m = 0 by unfold mgE; rw [S1.out, S2.out]; simp [hn])
      have HL := Lib.hid (show mgL l m = mg l m by unfold mgL; rw [HE.out]; simp)
      clear hn
      go_wp2
      have Q := KR.out.set 0 (by simp) (.slice ua (mg l m).length uc) rfl
      have q0 := Q.c 0 rfl
      exact bodyPost_ret (v := .tuple #[.agg #[.slice ua (mg l m).length uc], .int .i64 0]) (by simp [results, Try.results7, go_sem, q0]) rfl ⟨⟨_, by rw [HE.out], by rw [HL.out]; exact row_base (row_set HRW.out (fun e => absurd (row_own HRW.out _ e) (by have := HRZ.out; omega))) HBS.out⟩, HB9.out.setCell (by simp; omega) _⟩
    · have g1 : decide (((mg l m).length : Int) > 400) = true := by simp; omega
      have g2 : decide ((400 : Int) < ((mg l m).length : Int)) = true := by simp; omega
      have HE := Lib.hid (show mgE l m = 30 by unfold mgE; rw [S1.out, S2.out]; simp [hn])
      have HL := Lib.hid (show mgL l m = [] by unfold mgL; rw [HE.out]; simp)
      clear hn
      go_wp2
      have Q := KR.out.set 0 (by simp) (.slice none 0 0) rfl
      have q0 := Q.c 0 rfl
      exact bodyPost_ret (v := .tuple #[.agg #[.slice none 0 0], .int .i64 30]) (by simp [results, Try.results7, go_sem, q0]) rfl ⟨⟨_, by rw [HE.out], by rw [HL.out]; exact World.ownsRow_nil _ _ _ _⟩, HB9.out.setCell (by simp; omega) _⟩
theorem merge2_any (va vb : Value) (l m : List Int) (w : World) (h : TgAt w va l) (h' : TgAt w vb m) : Calls Try.prog 7 #[.agg #[va], .agg #[vb]] w fun e w' => (∃ u, e = .returned (.tuple #[.agg #[u], .int .i64 (mgE l m)]) ∧ w'.ownsRow w.heap.size 3 1 u (mgL l m).length ((mgL l m).map (Value.int .i64))) ∧ Below w.heap.size w w' := by
  cases h1 : stB l
  · have HE : mgE l m = 1 := by unfold mgE; simp [h1]
    have HL : mgL l m = [] := by unfold mgL; simp [HE]
    rw [HE, HL]
    exact (merge_bad1 va vb l m w h h' h1).mono fun e w' q => ⟨⟨_, q.1, World.ownsRow_nil _ _ _ _⟩, q.2⟩
  · cases h2 : stB m
    · have HE : mgE l m = 1 := by unfold mgE; simp [h2]
      have HL : mgL l m = [] := by unfold mgL; simp [HE]
      rw [HE, HL]
      exact (merge_bad2 va vb l m w h h' h1 h2).mono fun e w' q => ⟨⟨_, q.1, World.ownsRow_nil _ _ _ _⟩, q.2⟩
    · exact merge_main va vb l m w h h' h1 h2
end Go.Proofs.Ytoaleijfpocdjaa
