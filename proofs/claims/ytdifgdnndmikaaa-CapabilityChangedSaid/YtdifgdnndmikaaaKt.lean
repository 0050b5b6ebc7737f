/- Capabilities: the examples. -/
import Derived.Test.YtdifgdnndmikaaaKs
namespace Go.Proofs.Ytdifgdnndmikaaa
open Go.RowKit

/-- The example's caveats, and its tag. -/
def xL : List Cv := [⟨1, 2⟩, ⟨4, 100⟩, ⟨5, 2⟩]
def xM : List Cv := [⟨1, 2⟩, ⟨4, 100⟩]
def xT : Int := tk (tg0 9 5) xL 3
theorem x_md : mdB 9 5 xL = true := by decide +kernel
theorem x_gn : gnB 9 5 xT xL = true ∧ gnB 8 5 xT xL = false := by decide +kernel
theorem x_ch : chB 9 5 xT xL = [Dg [9, 1, 5], tk (tg0 9 5) xL 1, tk (tg0 9 5) xL 2, xT] := by decide +kernel
theorem x_ck : ckV 9 5 xT xL 2 7 1 99 1 = 0 ∧ ckV 9 5 xT xL 2 7 1 100 1 = 20 ∧ ckV 9 5 xT xL 3 7 1 99 1 = 18 ∧ ckV 9 5 xT xL 2 7 1 99 2 = 19 ∧ ckV 9 5 xT xL 3 7 1 100 2 = 18 ∧ ckV 9 5 xT xM 2 7 1 99 1 = 15 ∧ pmE 5 xT xM 2 7 1 99 5 = 0 ∧ ckV (-1) 5 xT xL 2 7 1 99 1 = 1 ∧ pmE 5 xT xL 2 7 1 99 (-1) = 1 := by decide +kernel
theorem xL_at (w : World) : CvsAt (w.alloc (.cells #[.int .i64 1, .int .i64 2, .int .i64 4, .int .i64 100, .int .i64 5, .int .i64 2] 26)) (.slice (some ⟨w.heap.size, 0, none⟩) 3 3) xL := by
  have h := Cs.new w w.heap.size #[.int .i64 1, .int .i64 2, .int .i64 4, .int .i64 100, .int .i64 5, .int .i64 2] 26 rfl
  refine ⟨_, 3, rfl, by decide, by decide, fun _ => ⟨_, 0, rfl, fun i x hx => ?_⟩⟩
  rcases i with _ | _ | _ | i
  · cases hx; exact ⟨h.c 0 rfl, h.c 1 rfl⟩
  · cases hx; exact ⟨h.c 2 rfl, h.c 3 rfl⟩
  · cases hx; exact ⟨h.c 4 rfl, h.c 5 rfl⟩
  · cases hx
/-- A region that only makes memory: what each operation's value is. -/
def RS (lit : (Nat → Value) → Act) (W : World) (G : Nat → Value → World → Prop) (bf : Nat → Bool) (ac : Act) (wv : World) : Prop :=
  ∃ vs, ac = lit vs ∧ Below W.heap.size W wv ∧ ∀ i, bf i = true → G i (vs i) wv
theorem RS.next {lit : (Nat → Value) → Act} {W : World} {G : Nat → Value → World → Prop} {bf : Nat → Bool} {wv : World} {vs : Nat → Value} (i : Nat) {x : Value} {w' : World} {ac' : Act} (hac : ac' = lit (upv vs i x))
    (k : ∀ i, bf i = true → G i (vs i) wv) (hb : Below W.heap.size W w') (hs : ∀ k v, G k v wv → G k v w') (hx : G i x w') : RS lit W G (up bf i) ac' w' := by
  refine ⟨upv vs i x, hac, hb, fun j hu => ?_⟩
  by_cases e : j = i
  · subst e; rw [upv_same]; exact hx
  · rw [up_ne _ _ _ e] at hu; rw [upv_ne _ _ _ _ e]; exact hs _ _ (k j hu)
/-- A region that makes one block and stores into it. -/
def Gd (val : List Value) (p q n0 : Nat) (c0 c1 : Array Value) (d : Bool) (i : Nat) (v : Value) (w : World) : Prop :=
  (i = p → ∃ g, v = .pointer (some ⟨g, 0, none⟩) ∧ n0 ≤ g ∧ Cs w g (cond d c1 c0)) ∧ (i ≠ p → i = q ∨ v = val.getD i undef)
theorem Gd.step {val : List Value} {p q n0 : Nat} {c0 c1 : Array Value} {d : Bool} {w w1 : World} (hb : Below w.heap.size w w1) : ∀ i v, Gd val p q n0 c0 c1 d i v w → Gd val p q n0 c0 c1 d i v w1 := fun i v h =>
  ⟨fun e => by
    obtain ⟨g, h1, h2, h3⟩ := h.1 e
    exact ⟨g, h1, h2, h3.step hb⟩, h.2⟩
theorem xM_at {w : World} {b off cap : Nat} (h : CvsAt w (.slice (some ⟨b, off, none⟩) 3 cap) xL) : CvsAt w (.slice (some ⟨b, off, none⟩) 2 cap) xM := by
  obtain ⟨a, c, hv, h1, -, h2⟩ := h
  cases hv
  obtain ⟨b2, off2, h3, h4⟩ := h2 (by decide)
  cases h3
  refine ⟨_, _, rfl, (show 2 ≤ cap from by have : 3 ≤ cap := h1; omega), by decide, fun _ => ⟨_, _, rfl, fun i x hx => h4 i x ?_⟩⟩
  rcases i with _ | _ | i
  · exact hx
  · exact hx
  · cases hx
set_option maxRecDepth 100000 in
set_option maxHeartbeats 4000000 in
theorem head_any (w : World) : Calls Try.prog 9 #[] w fun e w' => e = .returned (.bool true) ∧ Below w.heap.size w w' := by
  have HB0 := Lib.hid (Below.refl w.heap.size w)
  go_enter Try.func9, Try.ntmps9
  go_wp2_with fail
  refine (minted_any 9 5 _ xL _ (xL_at w)).mono ?_
  rintro e u ⟨vr, rfl, hmd, b⟩
  rw [x_md]
  obtain ⟨i1, t1, sl, m, rfl, hs, hq⟩ := hmd
  obtain ⟨rfl, rfl, rfl⟩ := hq x_md
  have HB := Lib.hid (keep2 b (al w _))
  clear b hq HB0
  have HS := Lib.hid hs
  obtain ⟨a, cap, rfl, hcap, -, hc⟩ := hs
  obtain ⟨b, off, rfl, -⟩ := hc (by decide)
  clear hc
  have hTT : tk (tg0 9 5) xL xL.length = xT := rfl
  rw [hTT]
  clear hTT
  have h3 : xL.length = 3 := rfl
  rw [h3] at HS hcap ⊢
  clear h3
  obtain ⟨T, hT⟩ : ∃ T, T = xT := ⟨_, rfl⟩
  rw [← hT]
  replace hT := Lib.hid hT
  go_wp2_with fail
  have KA_1 := Lib.hid (Cs.new u (u.heap.size) #[.int .i64 5, .slice (some ⟨b, off, none⟩) 3 cap, .int .i64 T] 24 (by simp))
  have HB2 : Hid (Below w.heap.size w (u.alloc (.cells #[.int .i64 5, .slice (some ⟨b, off, none⟩) 3 cap, .int .i64 T] 24))) := HB.out.alloc HB.out.size _
  clear HB
  have KA_3 := Lib.hid (KA_1.out.alloc (.cells #[.int .i64 2, .int .i64 7, .int .i64 1, .int .i64 99] 28))
  clear KA_1
  have KP_4 := Lib.hid (Cs.new (u.alloc (.cells #[.int .i64 5, .slice (some ⟨b, off, none⟩) 3 cap, .int .i64 T] 24)) (u.heap.size + 1) #[.int .i64 2, .int .i64 7, .int .i64 1, .int .i64 99] 28 (by simp))
  have HB5 : Hid (Below w.heap.size w ((u.alloc (.cells #[.int .i64 5, .slice (some ⟨b, off, none⟩) 3 cap, .int .i64 T] 24)).alloc (.cells #[.int .i64 2, .int .i64 7, .int .i64 1, .int .i64 99] 28))) := HB2.out.alloc HB2.out.size _
  clear HB2
  have KA_6 := Lib.hid (KA_3.out.alloc (.cells #[.int .i64 2, .int .i64 7, .int .i64 1, .int .i64 100] 28))
  clear KA_3
  have KP_7 := Lib.hid (KP_4.out.alloc (.cells #[.int .i64 2, .int .i64 7, .int .i64 1, .int .i64 100] 28))
  clear KP_4
  have KQ_8 := Lib.hid (Cs.new ((u.alloc (.cells #[.int .i64 5, .slice (some ⟨b, off, none⟩) 3 cap, .int .i64 T] 24)).alloc (.cells #[.int .i64 2, .int .i64 7, .int .i64 1, .int .i64 99] 28)) (u.heap.size + 1 + 1) #[.int .i64 2, .int .i64 7, .int .i64 1, .int .i64 100] 28 (by simp))
  have HB9 : Hid (Below w.heap.size w (((u.alloc (.cells #[.int .i64 5, .slice (some ⟨b, off, none⟩) 3 cap, .int .i64 T] 24)).alloc (.cells #[.int .i64 2, .int .i64 7, .int .i64 1, .int .i64 99] 28)).alloc (.cells #[.int .i64 2, .int .i64 7, .int .i64 1, .int .i64 100] 28))) := HB5.out.alloc HB5.out.size _
  clear HB5
  have KA_10 := Lib.hid (KA_6.out.alloc (.cells #[.int .i64 3, .int .i64 7, .int .i64 1, .int .i64 99] 28))
  clear KA_6
  have KP_11 := Lib.hid (KP_7.out.alloc (.cells #[.int .i64 3, .int .i64 7, .int .i64 1, .int .i64 99] 28))
  clear KP_7
  have KQ_12 := Lib.hid (KQ_8.out.alloc (.cells #[.int .i64 3, .int .i64 7, .int .i64 1, .int .i64 99] 28))
  clear KQ_8
  have KR_13 := Lib.hid (Cs.new (((u.alloc (.cells #[.int .i64 5, .slice (some ⟨b, off, none⟩) 3 cap, .int .i64 T] 24)).alloc (.cells #[.int .i64 2, .int .i64 7, .int .i64 1, .int .i64 99] 28)).alloc (.cells #[.int .i64 2, .int .i64 7, .int .i64 1, .int .i64 100] 28)) (u.heap.size + 1 + 1 + 1) #[.int .i64 3, .int .i64 7, .int .i64 1, .int .i64 99] 28 (by simp))
  have HB14 : Hid (Below w.heap.size w ((((u.alloc (.cells #[.int .i64 5, .slice (some ⟨b, off, none⟩) 3 cap, .int .i64 T] 24)).alloc (.cells #[.int .i64 2, .int .i64 7, .int .i64 1, .int .i64 99] 28)).alloc (.cells #[.int .i64 2, .int .i64 7, .int .i64 1, .int .i64 100] 28)).alloc (.cells #[.int .i64 3, .int .i64 7, .int .i64 1, .int .i64 99] 28))) := HB9.out.alloc HB9.out.size _
  clear HB9
  have KA_15 := Lib.hid (KA_10.out.alloc (.cells #[.int .i64 3, .int .i64 7, .int .i64 1, .int .i64 100] 28))
  clear KA_10
  have KP_16 := Lib.hid (KP_11.out.alloc (.cells #[.int .i64 3, .int .i64 7, .int .i64 1, .int .i64 100] 28))
  clear KP_11
  have KQ_17 := Lib.hid (KQ_12.out.alloc (.cells #[.int .i64 3, .int .i64 7, .int .i64 1, .int .i64 100] 28))
  clear KQ_12
  have KR_18 := Lib.hid (KR_13.out.alloc (.cells #[.int .i64 3, .int .i64 7, .int .i64 1, .int .i64 100] 28))
  clear KR_13
  have KS_19 := Lib.hid (Cs.new ((((u.alloc (.cells #[.int .i64 5, .slice (some ⟨b, off, none⟩) 3 cap, .int .i64 T] 24)).alloc (.cells #[.int .i64 2, .int .i64 7, .int .i64 1, .int .i64 99] 28)).alloc (.cells #[.int .i64 2, .int .i64 7, .int .i64 1, .int .i64 100] 28)).alloc (.cells #[.int .i64 3, .int .i64 7, .int .i64 1, .int .i64 99] 28)) (u.heap.size + 1 + 1 + 1 + 1) #[.int .i64 3, .int .i64 7, .int .i64 1, .int .i64 100] 28 (by simp))
  have HB20 : Hid (Below w.heap.size w (((((u.alloc (.cells #[.int .i64 5, .slice (some ⟨b, off, none⟩) 3 cap, .int .i64 T] 24)).alloc (.cells #[.int .i64 2, .int .i64 7, .int .i64 1, .int .i64 99] 28)).alloc (.cells #[.int .i64 2, .int .i64 7, .int .i64 1, .int .i64 100] 28)).alloc (.cells #[.int .i64 3, .int .i64 7, .int .i64 1, .int .i64 99] 28)).alloc (.cells #[.int .i64 3, .int .i64 7, .int .i64 1, .int .i64 100] 28))) := HB14.out.alloc HB14.out.size _
  clear HB14
  have HS1 := Lib.hid (HS.out.step (show Below u.heap.size u (((((u.alloc (.cells #[.int .i64 5, .slice (some ⟨b, off, none⟩) 3 cap, .int .i64 T] 24)).alloc (.cells #[.int .i64 2, .int .i64 7, .int .i64 1, .int .i64 99] 28)).alloc (.cells #[.int .i64 2, .int .i64 7, .int .i64 1, .int .i64 100] 28)).alloc (.cells #[.int .i64 3, .int .i64 7, .int .i64 1, .int .i64 99] 28)).alloc (.cells #[.int .i64 3, .int .i64 7, .int .i64 1, .int .i64 100] 28)) from (by repeat (first | with_reducible exact Below.refl _ _ | with_reducible exact Below.refl _ _ | ((with_reducible refine Below.setCell ?_ ?_ _); rotate_left; focus (first | (simp; done) | (simp; omega) | omega)) | ((with_reducible refine Below.alloc ?_ ?_ _); rotate_left; focus (first | (simp; done) | (simp; omega) | omega)) | with_reducible refine Below.trans ?_ (below_drewN' _ _ _) | with_reducible refine Below.trans ?_ (below_drew _ _)))))
  clear HS
  obtain ⟨W9, hW9⟩ : ∃ W, (((((u.alloc (.cells #[.int .i64 5, .slice (some ⟨b, off, none⟩) 3 cap, .int .i64 T] 24)).alloc (.cells #[.int .i64 2, .int .i64 7, .int .i64 1, .int .i64 99] 28)).alloc (.cells #[.int .i64 2, .int .i64 7, .int .i64 1, .int .i64 100] 28)).alloc (.cells #[.int .i64 3, .int .i64 7, .int .i64 1, .int .i64 99] 28)).alloc (.cells #[.int .i64 3, .int .i64 7, .int .i64 1, .int .i64 100] 28)) = W := ⟨_, rfl⟩
  rw [hW9] at KA_15 KP_16 KQ_17 KR_18 KS_19 HB20 HS1 ⊢
  clear hW9
  obtain ⟨lit, hlit⟩ : ∃ lit : (Nat → Value) → Act, lit = fun vs => { tmps := List.toArray (Value.bool false :: Value.pointer (some { block := u.heap.size, off := 0 }) :: Value.bool true :: Value.pointer (some { block := u.heap.size + 1, off := 0 }) :: Value.pointer (some { block := u.heap.size + 1 + 1, off := 0 }) :: Value.pointer (some { block := u.heap.size + 1 + 1 + 1, off := 0 }) :: Value.pointer (some { block := u.heap.size + 1 + 1 + 1 + 1, off := 0 }) :: vs 10 :: undef :: undef :: undef :: Value.tuple #[Value.agg #[Value.int IntKind.i64 5, Value.slice (some { block := b, off := off }) 3 cap, Value.int IntKind.i64 T], Value.bool true] :: Value.agg #[Value.int IntKind.i64 1, Value.int IntKind.i64 2] :: Value.agg #[Value.int IntKind.i64 4, Value.int IntKind.i64 100] :: Value.agg #[Value.int IntKind.i64 5, Value.int IntKind.i64 2] :: Value.slice (some { block := w.heap.size, off := 0 }) 3 3 :: Value.tuple #[Value.agg #[Value.int IntKind.i64 5, Value.slice (some { block := b, off := off }) 3 cap, Value.int IntKind.i64 T], Value.bool true] :: Value.agg #[Value.int IntKind.i64 5, Value.slice (some { block := b, off := off }) 3 cap, Value.int IntKind.i64 T] :: Value.bool true :: Value.agg #[Value.int IntKind.i64 2, Value.int IntKind.i64 7, Value.int IntKind.i64 1, Value.int IntKind.i64 99] :: Value.agg #[Value.int IntKind.i64 2, Value.int IntKind.i64 7, Value.int IntKind.i64 1, Value.int IntKind.i64 99] :: Value.pointer (some { block := u.heap.size + 1 + 1, off := 3 }) :: Value.agg #[Value.int IntKind.i64 2, Value.int IntKind.i64 7, Value.int IntKind.i64 1, Value.int IntKind.i64 99] :: Value.pointer (some { block := u.heap.size + 1 + 1 + 1, off := 0 }) :: Value.agg #[Value.int IntKind.i64 2, Value.int IntKind.i64 7, Value.int IntKind.i64 1, Value.int IntKind.i64 100] :: Value.pointer (some { block := u.heap.size + 1 + 1 + 1 + 1, off := 0 }) :: vs 0 :: vs 1 :: vs 2 :: vs 3 :: vs 4 :: vs 5 :: vs 6 :: vs 7 :: vs 8 :: vs 9 :: undef :: undef :: undef :: undef :: undef :: undef :: undef :: undef :: undef :: undef :: undef :: undef :: undef :: undef :: undef :: undef :: undef :: undef :: undef :: undef :: undef :: undef :: undef :: undef :: undef :: undef :: undef :: undef :: undef :: undef :: undef :: undef :: undef :: undef :: undef :: undef :: undef :: undef :: undef :: undef :: undef :: undef :: undef :: undef :: undef :: undef :: undef :: undef :: undef :: undef :: undef :: undef :: undef :: undef :: undef :: undef :: undef :: undef :: undef :: undef :: undef :: undef :: undef :: undef :: undef :: undef :: undef :: undef :: undef :: undef :: undef :: undef :: undef :: undef :: undef :: undef :: undef :: undef :: undef :: undef :: undef :: undef :: undef :: undef :: undef :: undef :: undef :: undef :: undef :: []), defers := [] } := ⟨_, rfl⟩
  have HLIT := Lib.hid hlit
  clear hlit
  obtain ⟨val, hval⟩ : ∃ val : List Value, val = [.pointer (some ⟨u.heap.size, 1, none⟩), .slice (some ⟨b, off, none⟩) 3 cap, .pointer (some ⟨u.heap.size, 1, none⟩), .slice (some ⟨b, off, none⟩) 3 cap, .int .i64 3, .int .i64 2, .slice (some ⟨b, off, none⟩) 2 cap, .pointer (some ⟨u.heap.size, 2, none⟩), .int .i64 T, .agg #[.int .i64 5, .slice (some ⟨b, off, none⟩) 2 cap, .int .i64 T], undef, undef] := ⟨_, rfl⟩
  have E0 := Lib.hid (show val.getD 0 undef = .pointer (some ⟨u.heap.size, 1, none⟩) by rw [hval]; rfl)
  have E1 := Lib.hid (show val.getD 1 undef = .slice (some ⟨b, off, none⟩) 3 cap by rw [hval]; rfl)
  have E2 := Lib.hid (show val.getD 2 undef = .pointer (some ⟨u.heap.size, 1, none⟩) by rw [hval]; rfl)
  have E3 := Lib.hid (show val.getD 3 undef = .slice (some ⟨b, off, none⟩) 3 cap by rw [hval]; rfl)
  have E4 := Lib.hid (show val.getD 4 undef = .int .i64 3 by rw [hval]; rfl)
  have E5 := Lib.hid (show val.getD 5 undef = .int .i64 2 by rw [hval]; rfl)
  have E6 := Lib.hid (show val.getD 6 undef = .slice (some ⟨b, off, none⟩) 2 cap by rw [hval]; rfl)
  have E7 := Lib.hid (show val.getD 7 undef = .pointer (some ⟨u.heap.size, 2, none⟩) by rw [hval]; rfl)
  have E8 := Lib.hid (show val.getD 8 undef = .int .i64 T by rw [hval]; rfl)
  have E9 := Lib.hid (show val.getD 9 undef = .agg #[.int .i64 5, .slice (some ⟨b, off, none⟩) 2 cap, .int .i64 T] by rw [hval]; rfl)
  clear hval
  refine region_inv (NS lit 11 (fun i => i == 10) (Gd val 10 11 W9.heap.size #[.int .i64 0, .slice none 0 0, .int .i64 0] #[.int .i64 5, .slice (some ⟨b, off, none⟩) 2 cap, .int .i64 T]) fun _ wv => Below W9.heap.size W9 wv) (by kernel_rfl) (by decide +kernel) ?_ ?_ ?_
  · exact NS.start (fun i => ([undef, undef, undef, undef, undef, undef, undef, undef, undef, undef, undef, undef] : List Value).getD i undef) (by rw [HLIT.out]; rfl) (below_drew _ _)
  · refine ⟨?_, ?_, ?_, ?_, ?_, ?_, ?_, ?_, ?_, ?_, ?_, ?_, trivial⟩
    · intro bf ac wv hfb haf hJ K' hK
      obtain ⟨vs, rfl, jn, hM, j4⟩ := hJ
      replace hK := Lib.hid hK
      replace hM := Lib.hid hM
      replace j4 := Lib.hid (And.intro jn j4)
      clear jn haf hfb
      rw [HLIT.out]
      go_simp
      exact hK.out _ _ (NS.next (wv := wv) (vs := vs) 0 (by omega) (x := .pointer (some ⟨u.heap.size, 1, none⟩)) (by rw [HLIT.out]; rfl) j4.out hM.out (fun _ _ h => h) ⟨fun h => absurd h (by decide), fun _ => .inr E0.out.symm⟩)
    · intro bf ac wv hfb haf hJ K' hK
      obtain ⟨vs, rfl, jn, hM, j4⟩ := hJ
      replace hK := Lib.hid hK
      replace hM := Lib.hid hM
      simp [Region.binds] at haf
      have e0 : vs 0 = _ := (((j4 0 (by simp [haf])).2 (by decide)).resolve_left (by decide)).trans E0.out
      have K1 := KA_15.out.step hM.out
      have x1 := K1.c 1 rfl
      have xz := K1.2.2
      clear K1
      replace j4 := Lib.hid (And.intro jn j4)
      clear jn haf hfb
      rw [HLIT.out]
      go_simp
      exact hK.out _ _ (NS.next (wv := wv) (vs := vs) 1 (by omega) (x := .slice (some ⟨b, off, none⟩) 3 cap) (by rw [HLIT.out]; simp only [upv, e0, Nat.reduceBEq, cond_true, cond_false]) j4.out hM.out (fun _ _ h => h) ⟨fun h => absurd h (by decide), fun _ => .inr E1.out.symm⟩)
    · intro bf ac wv hfb haf hJ K' hK
      obtain ⟨vs, rfl, jn, hM, j4⟩ := hJ
      replace hK := Lib.hid hK
      replace hM := Lib.hid hM
      replace j4 := Lib.hid (And.intro jn j4)
      clear jn haf hfb
      rw [HLIT.out]
      go_simp
      exact hK.out _ _ (NS.next (wv := wv) (vs := vs) 2 (by omega) (x := .pointer (some ⟨u.heap.size, 1, none⟩)) (by rw [HLIT.out]; rfl) j4.out hM.out (fun _ _ h => h) ⟨fun h => absurd h (by decide), fun _ => .inr E2.out.symm⟩)
    · intro bf ac wv hfb haf hJ K' hK
      obtain ⟨vs, rfl, jn, hM, j4⟩ := hJ
      replace hK := Lib.hid hK
      replace hM := Lib.hid hM
      simp [Region.binds] at haf
      have e2 : vs 2 = _ := (((j4 2 (by simp [haf])).2 (by decide)).resolve_left (by decide)).trans E2.out
      have K1 := KA_15.out.step hM.out
      have x1 := K1.c 1 rfl
      have xz := K1.2.2
      clear K1
      replace j4 := Lib.hid (And.intro jn j4)
      clear jn haf hfb
      rw [HLIT.out]
      go_simp
      exact hK.out _ _ (NS.next (wv := wv) (vs := vs) 3 (by omega) (x := .slice (some ⟨b, off, none⟩) 3 cap) (by rw [HLIT.out]; simp only [upv, e2, Nat.reduceBEq, cond_true, cond_false]) j4.out hM.out (fun _ _ h => h) ⟨fun h => absurd h (by decide), fun _ => .inr E3.out.symm⟩)
    · intro bf ac wv hfb haf hJ K' hK
      obtain ⟨vs, rfl, jn, hM, j4⟩ := hJ
      replace hK := Lib.hid hK
      replace hM := Lib.hid hM
      simp [Region.binds] at haf
      have e3 : vs 3 = _ := (((j4 3 (by simp [haf])).2 (by decide)).resolve_left (by decide)).trans E3.out
      replace j4 := Lib.hid (And.intro jn j4)
      clear jn haf hfb
      rw [HLIT.out]
      go_simp
      exact hK.out _ _ (NS.next (wv := wv) (vs := vs) 4 (by omega) (x := .int .i64 3) (by rw [HLIT.out]; simp only [upv, e3, Nat.reduceBEq, cond_true, cond_false]) j4.out hM.out (fun _ _ h => h) ⟨fun h => absurd h (by decide), fun _ => .inr E4.out.symm⟩)
    · intro bf ac wv hfb haf hJ K' hK
      obtain ⟨vs, rfl, jn, hM, j4⟩ := hJ
      replace hK := Lib.hid hK
      replace hM := Lib.hid hM
      simp [Region.binds] at haf
      have e4 : vs 4 = _ := (((j4 4 (by simp [haf])).2 (by decide)).resolve_left (by decide)).trans E4.out
      replace j4 := Lib.hid (And.intro jn j4)
      clear jn haf hfb
      rw [HLIT.out]
      go_simp
      exact hK.out _ _ (NS.next (wv := wv) (vs := vs) 5 (by omega) (x := .int .i64 2) (by rw [HLIT.out]; simp only [upv, e4, Nat.reduceBEq, cond_true, cond_false]) j4.out hM.out (fun _ _ h => h) ⟨fun h => absurd h (by decide), fun _ => .inr E5.out.symm⟩)
    · intro bf ac wv hfb haf hJ K' hK
      obtain ⟨vs, rfl, jn, hM, j4⟩ := hJ
      replace hK := Lib.hid hK
      replace hM := Lib.hid hM
      simp [Region.binds] at haf
      have e1 : vs 1 = _ := (((j4 1 (by simp [haf])).2 (by decide)).resolve_left (by decide)).trans E1.out
      have e5 : vs 5 = _ := (((j4 5 (by simp [haf])).2 (by decide)).resolve_left (by decide)).trans E5.out
      have hcap2 : (2 : Int) ≤ (cap : Int) := by omega
      replace j4 := Lib.hid (And.intro jn j4)
      clear jn haf hfb
      rw [HLIT.out]
      go_simp
      exact hK.out _ _ (NS.next (wv := wv) (vs := vs) 6 (by omega) (x := .slice (some ⟨b, off, none⟩) 2 cap) (by rw [HLIT.out]; simp only [upv, e1, e5, Nat.reduceBEq, cond_true, cond_false]) j4.out hM.out (fun _ _ h => h) ⟨fun h => absurd h (by decide), fun _ => .inr E6.out.symm⟩)
    · intro bf ac wv hfb haf hJ K' hK
      obtain ⟨vs, rfl, jn, hM, j4⟩ := hJ
      replace hK := Lib.hid hK
      replace hM := Lib.hid hM
      replace j4 := Lib.hid (And.intro jn j4)
      clear jn haf hfb
      rw [HLIT.out]
      go_simp
      exact hK.out _ _ (NS.next (wv := wv) (vs := vs) 7 (by omega) (x := .pointer (some ⟨u.heap.size, 2, none⟩)) (by rw [HLIT.out]; rfl) j4.out hM.out (fun _ _ h => h) ⟨fun h => absurd h (by decide), fun _ => .inr E7.out.symm⟩)
    · intro bf ac wv hfb haf hJ K' hK
      obtain ⟨vs, rfl, jn, hM, j4⟩ := hJ
      replace hK := Lib.hid hK
      replace hM := Lib.hid hM
      simp [Region.binds] at haf
      have e7 : vs 7 = _ := (((j4 7 (by simp [haf])).2 (by decide)).resolve_left (by decide)).trans E7.out
      have K1 := KA_15.out.step hM.out
      have x2 := K1.c 2 rfl
      have xz := K1.2.2
      clear K1
      replace j4 := Lib.hid (And.intro jn j4)
      clear jn haf hfb
      rw [HLIT.out]
      go_simp
      exact hK.out _ _ (NS.next (wv := wv) (vs := vs) 8 (by omega) (x := .int .i64 T) (by rw [HLIT.out]; simp only [upv, e7, Nat.reduceBEq, cond_true, cond_false]) j4.out hM.out (fun _ _ h => h) ⟨fun h => absurd h (by decide), fun _ => .inr E8.out.symm⟩)
    · intro bf ac wv hfb haf hJ K' hK
      obtain ⟨vs, rfl, jn, hM, j4⟩ := hJ
      replace hK := Lib.hid hK
      replace hM := Lib.hid hM
      simp [Region.binds] at haf
      have e6 : vs 6 = _ := (((j4 6 (by simp [haf])).2 (by decide)).resolve_left (by decide)).trans E6.out
      have e8 : vs 8 = _ := (((j4 8 (by simp [haf])).2 (by decide)).resolve_left (by decide)).trans E8.out
      replace j4 := Lib.hid (And.intro jn j4)
      clear jn haf hfb
      rw [HLIT.out]
      go_simp
      exact hK.out _ _ (NS.next (wv := wv) (vs := vs) 9 (by omega) (x := .agg #[.int .i64 5, .slice (some ⟨b, off, none⟩) 2 cap, .int .i64 T]) (by rw [HLIT.out]; simp only [upv, e6, e8, Nat.reduceBEq, cond_true, cond_false]) j4.out hM.out (fun _ _ h => h) ⟨fun h => absurd h (by decide), fun _ => .inr E9.out.symm⟩)
    · intro bf ac wv hfb haf hJ K' hK
      obtain ⟨vs, rfl, jn, hM, j4⟩ := hJ
      replace hK := Lib.hid hK
      replace hM := Lib.hid hM
      have hd : bf 11 = false := Bool.eq_false_iff.2 fun h => absurd ((jn h 10 rfl).symm.trans hfb) (by simp)
      replace j4 := Lib.hid (And.intro jn j4)
      clear jn haf hfb
      rw [HLIT.out]
      go_simp
      exact hK.out _ _ (NS.next (wv := wv) (vs := vs) 10 (by omega) (x := .pointer (some ⟨wv.heap.size, 0, none⟩)) (by rw [HLIT.out]; rfl) j4.out (keep2 (al _ _) hM.out) (Gd.step (al _ _)) ⟨fun _ => ⟨_, rfl, hM.out.size, by rw [hd]; exact Cs.new wv wv.heap.size _ 24 rfl⟩, fun h => absurd rfl h⟩)
    · intro bf ac wv hfb haf hJ K' hK
      obtain ⟨vs, rfl, jn, hM, j4⟩ := hJ
      replace hK := Lib.hid hK
      replace hM := Lib.hid hM
      simp [Region.binds] at haf
      have e9 : vs 9 = _ := (((j4 9 (by simp [haf])).2 (by decide)).resolve_left (by decide)).trans E9.out
      obtain ⟨g, e10, hg, hz⟩ := (j4 10 (by simp [haf])).1 rfl
      rw [hfb] at hz j4
      simp only [cond_false] at hz
      replace j4 := Lib.hid j4
      have HA := Lib.hid (show ∀ i, (i == 10) = true → bf i = true from fun i hi => by
        obtain rfl : i = 10 := by simpa using hi
        simp [haf])
      clear jn haf
      have x0 := hz.c 0 rfl
      have y0 := hz.f 0 (by simp)
      have x1 := hz.c 1 rfl
      have y1 := hz.f 1 (by simp)
      have x2 := hz.c 2 rfl
      have y2 := hz.f 2 (by simp)
      have xz := hz.2.2
      have HZ := Lib.hid hz
      clear hz
      replace hg := Lib.hid hg
      rw [HLIT.out]
      go_simp
      exact hK.out _ _ (NS.put (vs := vs) (by rw [HLIT.out]; simp only [e9, e10]) HA.out (((hM.out.setCell hg.out _).setCell hg.out _).setCell hg.out _) (fun j _ hj => ⟨fun e => by
        subst e
        exact ⟨g, e10, hg.out, Cs.set (Cs.set (Cs.set HZ.out 0 (by simp) _ rfl) 1 (by simp) _ rfl) 2 (by simp) _ rfl⟩, (j4.out j hj).2⟩) (fun _ => ⟨fun h => absurd h (by decide), fun _ => .inl rfl⟩))
  · intro bf ac wv hall hJ
    obtain ⟨us, rfl, -, hM, j4⟩ := hJ
    rw [hall 11 (by decide)] at j4
    obtain ⟨g, e10, hg, hz⟩ := (j4 10 (hall 10 (by decide))).1 rfl
    simp only [cond_true] at hz
    replace hM := Lib.hid hM
    have HZ := Lib.hid hz
    clear hz hg j4 hall
    rw [HLIT.out]
    dsimp only
    rw [e10]
    clear e10

    have HM9 := hM
    have JA := Lib.hid (KA_15.out.step hM.out)
    have JP := Lib.hid (KP_16.out.step hM.out)
    have JQ := Lib.hid (KQ_17.out.step hM.out)
    have JR := Lib.hid (KR_18.out.step hM.out)
    have JS := Lib.hid (KS_19.out.step hM.out)
    have HS2 := Lib.hid (HS1.out.step hM.out)
    have HB9 := Lib.hid (keep2 hM.out HB20.out)
    clear hM HM9 HS1 HB20 KA_15 KP_16 KQ_17 KR_18 KS_19
    have HM2 : Hid (CvsAt wv (.slice (some ⟨b, off, none⟩) 2 cap) xM) := Lib.hid (xM_at HS2.out)
    have xA0 : wv.cell? ⟨u.heap.size, 0, none⟩ = some (.int .i64 5) := JA.out.c 0 rfl
    have xA1 : wv.cell? ⟨u.heap.size, 1, none⟩ = some (.slice (some ⟨b, off, none⟩) 3 cap) := JA.out.c 1 rfl
    have xA2 : wv.cell? ⟨u.heap.size, 2, none⟩ = some (.int .i64 T) := JA.out.c 2 rfl
    have zA : u.heap.size < wv.heap.size := JA.out.2.2
    have z2A : u.heap.size < wv.heap.size + 1 := by omega
    go_wp2_with fail
    refine (chain2_any 9 5 T _ xL _ HS2.out).mono ?_
    rintro e u2 ⟨ch, rfl, hch, b2⟩
    rw [hT.out, x_ch] at hch
    replace HS2 := Lib.hid (HS2.out.step b2)
    replace HM2 := Lib.hid (HM2.out.step b2)
    clear xA0 xA1 xA2 zA z2A
    have KA_501 := Lib.hid (JA.out.step b2)
    clear JA
    have KP_502 := Lib.hid (JP.out.step b2)
    clear JP
    have KQ_503 := Lib.hid (JQ.out.step b2)
    clear JQ
    have KR_504 := Lib.hid (JR.out.step b2)
    clear JR
    have KS_505 := Lib.hid (JS.out.step b2)
    clear JS
    have KG_506 := Lib.hid (HZ.out.step b2)
    clear HZ
    have HB507 := Lib.hid (keep2 b2 HB9.out)
    clear HB9 b2
    have HCH := Lib.hid hch
    obtain ⟨ac, cc, rfl, -, hch⟩ := hch
    obtain ⟨cb, co, rfl, hc2⟩ := hch (by simp)
    have c0 := hc2 0 _ rfl
    have c3 := hc2 3 _ rfl
    rw [← hT.out] at c3
    simp only [Nat.add_zero] at c0
    clear hch hc2
    obtain ⟨C0, hC0⟩ : ∃ C0, C0 = Dg [9, 1, 5] := ⟨_, rfl⟩
    rw [← hC0] at c0
    replace hC0 := Lib.hid hC0
    replace c0 := Lib.hid c0
    replace c3 := Lib.hid c3
    simp only [List.length_cons, List.length_nil, Nat.zero_add, Nat.reduceAdd]
    skip
    go_wp2_with fail
    have F1 := Lib.hid (show gnB 9 5 T xL = true from by rw [hT.out]; exact x_gn.1)
    have F2 := Lib.hid (show gnB 8 5 T xL = false from by rw [hT.out]; exact x_gn.2)
    skip
    have HTG := Lib.hid (fun (v : Value) (w : World) (h : IntsAt w v [5]) => (tag_any 9 v [5] w h (by decide) (by decide)).mono (R' := fun e w' => e = .returned (.int .i64 C0) ∧ Below w.heap.size w w') fun e w' q => by
      rw [hC0.out]
      exact q)
    obtain ⟨lit, hlit⟩ : ∃ lit : (Nat → Value) → Act, lit = fun vs => { tmps := List.toArray (Value.bool false :: Value.pointer (some { block := u.heap.size, off := 0 }) :: Value.bool true :: Value.pointer (some { block := u.heap.size + 1, off := 0 }) :: Value.pointer (some { block := u.heap.size + 1 + 1, off := 0 }) :: Value.pointer (some { block := u.heap.size + 1 + 1 + 1, off := 0 }) :: Value.pointer (some { block := u.heap.size + 1 + 1 + 1 + 1, off := 0 }) :: Value.pointer (some { block := g, off := 0 }) :: Value.slice (some { block := cb, off := co }) 4 cc :: vs 31 :: undef :: Value.tuple #[Value.agg #[Value.int IntKind.i64 5, Value.slice (some { block := b, off := off }) 3 cap, Value.int IntKind.i64 T], Value.bool true] :: Value.agg #[Value.int IntKind.i64 1, Value.int IntKind.i64 2] :: Value.agg #[Value.int IntKind.i64 4, Value.int IntKind.i64 100] :: Value.agg #[Value.int IntKind.i64 5, Value.int IntKind.i64 2] :: Value.slice (some { block := w.heap.size, off := 0 }) 3 3 :: Value.tuple #[Value.agg #[Value.int IntKind.i64 5, Value.slice (some { block := b, off := off }) 3 cap, Value.int IntKind.i64 T], Value.bool true] :: Value.agg #[Value.int IntKind.i64 5, Value.slice (some { block := b, off := off }) 3 cap, Value.int IntKind.i64 T] :: Value.bool true :: Value.agg #[Value.int IntKind.i64 2, Value.int IntKind.i64 7, Value.int IntKind.i64 1, Value.int IntKind.i64 99] :: Value.agg #[Value.int IntKind.i64 2, Value.int IntKind.i64 7, Value.int IntKind.i64 1, Value.int IntKind.i64 99] :: Value.pointer (some { block := u.heap.size + 1 + 1, off := 3 }) :: Value.agg #[Value.int IntKind.i64 2, Value.int IntKind.i64 7, Value.int IntKind.i64 1, Value.int IntKind.i64 99] :: Value.pointer (some { block := u.heap.size + 1 + 1 + 1, off := 0 }) :: Value.agg #[Value.int IntKind.i64 2, Value.int IntKind.i64 7, Value.int IntKind.i64 1, Value.int IntKind.i64 100] :: Value.pointer (some { block := u.heap.size + 1 + 1 + 1 + 1, off := 0 }) :: us 0 :: us 1 :: us 2 :: us 3 :: us 4 :: us 5 :: us 6 :: us 7 :: us 8 :: us 9 :: Value.agg #[Value.int IntKind.i64 5, Value.slice (some { block := b, off := off }) 3 cap, Value.int IntKind.i64 T] :: Value.slice (some { block := cb, off := co }) 4 cc :: vs 0 :: vs 1 :: vs 2 :: vs 3 :: vs 4 :: vs 5 :: vs 6 :: vs 7 :: vs 8 :: vs 9 :: vs 10 :: vs 11 :: vs 12 :: vs 13 :: vs 14 :: vs 15 :: vs 16 :: vs 17 :: vs 18 :: vs 19 :: vs 20 :: vs 21 :: vs 22 :: vs 23 :: vs 24 :: vs 25 :: vs 26 :: vs 27 :: vs 28 :: vs 29 :: vs 30 :: undef :: undef :: undef :: undef :: undef :: undef :: undef :: undef :: undef :: undef :: undef :: undef :: undef :: undef :: undef :: undef :: undef :: undef :: undef :: undef :: undef :: undef :: undef :: undef :: undef :: undef :: undef :: undef :: undef :: undef :: undef :: undef :: undef :: undef :: undef :: undef :: undef :: undef :: undef :: undef :: undef :: undef :: undef :: undef :: undef :: undef :: undef :: undef :: undef :: undef :: undef :: undef :: undef :: undef :: undef :: undef :: []), defers := [] } := ⟨_, rfl⟩
    have HLIT := Lib.hid hlit
    clear hlit
    obtain ⟨val, hval⟩ : ∃ val : List Value, val = [.bool true, .bool true, .agg #[.int .i64 5, .slice (some ⟨b, off, none⟩) 3 cap, .int .i64 T], .bool true, .bool true, .bool true, .agg #[.int .i64 5, .slice (some ⟨b, off, none⟩) 3 cap, .int .i64 T], .bool false, .bool true, .bool true, .bool true, .slice (some ⟨cb, co, none⟩) 4 cc, .int .i64 4, .bool true, .bool true, .bool true, .slice (some ⟨cb, co, none⟩) 4 cc, .pointer (some ⟨cb, co + 3, none⟩), .int .i64 T, .pointer (some ⟨u.heap.size, 2, none⟩), .int .i64 T, .bool true, .bool true, .bool true, .slice (some ⟨cb, co, none⟩) 4 cc, .pointer (some ⟨cb, co, none⟩), .int .i64 C0, undef, .int .i64 C0, .bool true, .bool true, .bool true] := ⟨_, rfl⟩
    have E0 := Lib.hid (show val.getD 0 undef = .bool true by rw [hval]; rfl)
    have E1 := Lib.hid (show val.getD 1 undef = .bool true by rw [hval]; rfl)
    have E2 := Lib.hid (show val.getD 2 undef = .agg #[.int .i64 5, .slice (some ⟨b, off, none⟩) 3 cap, .int .i64 T] by rw [hval]; rfl)
    have E3 := Lib.hid (show val.getD 3 undef = .bool true by rw [hval]; rfl)
    have E4 := Lib.hid (show val.getD 4 undef = .bool true by rw [hval]; rfl)
    have E5 := Lib.hid (show val.getD 5 undef = .bool true by rw [hval]; rfl)
    have E6 := Lib.hid (show val.getD 6 undef = .agg #[.int .i64 5, .slice (some ⟨b, off, none⟩) 3 cap, .int .i64 T] by rw [hval]; rfl)
    have E7 := Lib.hid (show val.getD 7 undef = .bool false by rw [hval]; rfl)
    have E8 := Lib.hid (show val.getD 8 undef = .bool true by rw [hval]; rfl)
    have E9 := Lib.hid (show val.getD 9 undef = .bool true by rw [hval]; rfl)
    have E10 := Lib.hid (show val.getD 10 undef = .bool true by rw [hval]; rfl)
    have E11 := Lib.hid (show val.getD 11 undef = .slice (some ⟨cb, co, none⟩) 4 cc by rw [hval]; rfl)
    have E12 := Lib.hid (show val.getD 12 undef = .int .i64 4 by rw [hval]; rfl)
    have E13 := Lib.hid (show val.getD 13 undef = .bool true by rw [hval]; rfl)
    have E14 := Lib.hid (show val.getD 14 undef = .bool true by rw [hval]; rfl)
    have E15 := Lib.hid (show val.getD 15 undef = .bool true by rw [hval]; rfl)
    have E16 := Lib.hid (show val.getD 16 undef = .slice (some ⟨cb, co, none⟩) 4 cc by rw [hval]; rfl)
    have E17 := Lib.hid (show val.getD 17 undef = .pointer (some ⟨cb, co + 3, none⟩) by rw [hval]; rfl)
    have E18 := Lib.hid (show val.getD 18 undef = .int .i64 T by rw [hval]; rfl)
    have E19 := Lib.hid (show val.getD 19 undef = .pointer (some ⟨u.heap.size, 2, none⟩) by rw [hval]; rfl)
    have E20 := Lib.hid (show val.getD 20 undef = .int .i64 T by rw [hval]; rfl)
    have E21 := Lib.hid (show val.getD 21 undef = .bool true by rw [hval]; rfl)
    have E22 := Lib.hid (show val.getD 22 undef = .bool true by rw [hval]; rfl)
    have E23 := Lib.hid (show val.getD 23 undef = .bool true by rw [hval]; rfl)
    have E24 := Lib.hid (show val.getD 24 undef = .slice (some ⟨cb, co, none⟩) 4 cc by rw [hval]; rfl)
    have E25 := Lib.hid (show val.getD 25 undef = .pointer (some ⟨cb, co, none⟩) by rw [hval]; rfl)
    have E26 := Lib.hid (show val.getD 26 undef = .int .i64 C0 by rw [hval]; rfl)
    have E28 := Lib.hid (show val.getD 28 undef = .int .i64 C0 by rw [hval]; rfl)
    have E29 := Lib.hid (show val.getD 29 undef = .bool true by rw [hval]; rfl)
    have E30 := Lib.hid (show val.getD 30 undef = .bool true by rw [hval]; rfl)
    have E31 := Lib.hid (show val.getD 31 undef = .bool true by rw [hval]; rfl)
    clear hval
    obtain ⟨G, hG0⟩ : ∃ G : Nat → Value → World → Prop, G = (fun i v w => (i = 27 → ∃ gg, v = .slice (some ⟨gg, 0, none⟩) 1 1 ∧ IntsAt w v [5]) ∧ (i ≠ 27 → v = val.getD i undef)) := ⟨_, rfl⟩
    have HG := Lib.hid hG0
    clear hG0
    refine region_inv (RS lit u2 G) (by kernel_rfl) (by decide +kernel) ?_ ?_ ?_
    · exact ⟨fun i => ([undef, undef, undef, undef, undef, undef, undef, undef, undef, undef, undef, undef, undef, undef, undef, undef, undef, undef, undef, undef, undef, undef, undef, undef, undef, undef, undef, undef, undef, undef, undef, undef] : List Value).getD i undef, (by rw [HLIT.out]; rfl), below_drew _ _, fun i h => by cases h⟩
    · refine ⟨?_, ?_, ?_, ?_, ?_, ?_, ?_, ?_, ?_, ?_, ?_, ?_, ?_, ?_, ?_, ?_, ?_, ?_, ?_, ?_, ?_, ?_, ?_, ?_, ?_, ?_, ?_, ?_, ?_, ?_, ?_, ?_, trivial⟩
      · intro bf ac wv hfb haf hJ K' hK
        obtain ⟨vs, rfl, hM, j4⟩ := hJ
        replace hK := Lib.hid hK
        replace hM := Lib.hid hM
        rw [HG.out] at j4
        replace j4 := Lib.hid j4
        clear haf hfb
        rw [HLIT.out]
        go_simp
        exact hK.out _ _ (RS.next (wv := wv) (vs := vs) 0 (x := .bool true) (by rw [HLIT.out]; rfl) (by rw [HG.out]; exact j4.out) hM.out (by rw [HG.out]; exact fun _ _ h => h) (by rw [HG.out]; exact ⟨fun h => absurd h (by decide), fun _ => E0.out.symm⟩))
      · intro bf ac wv hfb haf hJ K' hK
        obtain ⟨vs, rfl, hM, j4⟩ := hJ
        replace hK := Lib.hid hK
        replace hM := Lib.hid hM
        rw [HG.out] at j4
        simp [Region.binds] at haf
        have e0 := ((j4 0 (by simp [haf])).2 (by decide)).trans E0.out
        replace j4 := Lib.hid j4
        clear haf hfb
        rw [HLIT.out]
        go_simp
        exact hK.out _ _ (RS.next (wv := wv) (vs := vs) 1 (x := .bool true) (by rw [HLIT.out]; simp only [upv, e0, Nat.reduceBEq, cond_true, cond_false]) (by rw [HG.out]; exact j4.out) hM.out (by rw [HG.out]; exact fun _ _ h => h) (by rw [HG.out]; exact ⟨fun h => absurd h (by decide), fun _ => E1.out.symm⟩))
      · intro bf ac wv hfb haf hJ K' hK
        obtain ⟨vs, rfl, hM, j4⟩ := hJ
        replace hK := Lib.hid hK
        replace hM := Lib.hid hM
        rw [HG.out] at j4
        simp [Region.binds] at haf
        have e1 := ((j4 1 (by simp [haf])).2 (by decide)).trans E1.out
        replace j4 := Lib.hid j4
        clear haf hfb
        have K1 := KA_501.out.step hM.out
        have x0 := K1.c 0 rfl
        have x1 := K1.c 1 rfl
        have x2 := K1.c 2 rfl
        have xz := K1.2.2
        clear K1
        rw [HLIT.out]
        go_simp
        exact hK.out _ _ (RS.next (wv := wv) (vs := vs) 2 (x := .agg #[.int .i64 5, .slice (some ⟨b, off, none⟩) 3 cap, .int .i64 T]) (by rw [HLIT.out]; simp only [upv, e1, Nat.reduceBEq, cond_true, cond_false]) (by rw [HG.out]; exact j4.out) hM.out (by rw [HG.out]; exact fun _ _ h => h) (by rw [HG.out]; exact ⟨fun h => absurd h (by decide), fun _ => E2.out.symm⟩))
      · intro bf ac wv hfb haf hJ K' hK
        obtain ⟨vs, rfl, hM, j4⟩ := hJ
        replace hK := Lib.hid hK
        replace hM := Lib.hid hM
        rw [HG.out] at j4
        simp [Region.binds] at haf
        have e1 := ((j4 1 (by simp [haf])).2 (by decide)).trans E1.out
        have e2 := ((j4 2 (by simp [haf])).2 (by decide)).trans E2.out
        replace j4 := Lib.hid j4
        clear haf hfb
        rw [HLIT.out]
        go_simp
        go_at_call 15
        refine (genuine_any 9 5 T _ xL _ (HS2.out.step hM.out)).mono ?_
        rintro e w4 ⟨rfl, b4⟩
        rw [F1.out]
        exact hK.out _ _ (RS.next (wv := wv) (vs := vs) 3 (x := .bool true) (by rw [HLIT.out]; simp only [upv, e1, e2, Nat.reduceBEq, cond_true, cond_false]) (by rw [HG.out]; exact j4.out) (keep2 b4 hM.out) (by rw [HG.out]; exact fun k v h => ⟨fun q => (h.1 q).imp fun gg q2 => ⟨q2.1, q2.2.step b4⟩, h.2⟩) (by rw [HG.out]; exact ⟨fun h => absurd h (by decide), fun _ => E3.out.symm⟩))
      · intro bf ac wv hfb haf hJ K' hK
        obtain ⟨vs, rfl, hM, j4⟩ := hJ
        replace hK := Lib.hid hK
        replace hM := Lib.hid hM
        rw [HG.out] at j4
        simp [Region.binds] at haf
        have e1 := ((j4 1 (by simp [haf])).2 (by decide)).trans E1.out
        have e3 := ((j4 3 (by simp [haf])).2 (by decide)).trans E3.out
        replace j4 := Lib.hid j4
        clear haf hfb
        rw [HLIT.out]
        go_simp
        exact hK.out _ _ (RS.next (wv := wv) (vs := vs) 4 (x := .bool true) (by rw [HLIT.out]; simp only [upv, e1, e3, Nat.reduceBEq, cond_true, cond_false]) (by rw [HG.out]; exact j4.out) hM.out (by rw [HG.out]; exact fun _ _ h => h) (by rw [HG.out]; exact ⟨fun h => absurd h (by decide), fun _ => E4.out.symm⟩))
      · intro bf ac wv hfb haf hJ K' hK
        obtain ⟨vs, rfl, hM, j4⟩ := hJ
        replace hK := Lib.hid hK
        replace hM := Lib.hid hM
        rw [HG.out] at j4
        simp [Region.binds] at haf
        have e4 := ((j4 4 (by simp [haf])).2 (by decide)).trans E4.out
        replace j4 := Lib.hid j4
        clear haf hfb
        rw [HLIT.out]
        go_simp
        exact hK.out _ _ (RS.next (wv := wv) (vs := vs) 5 (x := .bool true) (by rw [HLIT.out]; simp only [upv, e4, Nat.reduceBEq, cond_true, cond_false]) (by rw [HG.out]; exact j4.out) hM.out (by rw [HG.out]; exact fun _ _ h => h) (by rw [HG.out]; exact ⟨fun h => absurd h (by decide), fun _ => E5.out.symm⟩))
      · intro bf ac wv hfb haf hJ K' hK
        obtain ⟨vs, rfl, hM, j4⟩ := hJ
        replace hK := Lib.hid hK
        replace hM := Lib.hid hM
        rw [HG.out] at j4
        simp [Region.binds] at haf
        have e5 := ((j4 5 (by simp [haf])).2 (by decide)).trans E5.out
        replace j4 := Lib.hid j4
        clear haf hfb
        have K1 := KA_501.out.step hM.out
        have x0 := K1.c 0 rfl
        have x1 := K1.c 1 rfl
        have x2 := K1.c 2 rfl
        have xz := K1.2.2
        clear K1
        rw [HLIT.out]
        go_simp
        exact hK.out _ _ (RS.next (wv := wv) (vs := vs) 6 (x := .agg #[.int .i64 5, .slice (some ⟨b, off, none⟩) 3 cap, .int .i64 T]) (by rw [HLIT.out]; simp only [upv, e5, Nat.reduceBEq, cond_true, cond_false]) (by rw [HG.out]; exact j4.out) hM.out (by rw [HG.out]; exact fun _ _ h => h) (by rw [HG.out]; exact ⟨fun h => absurd h (by decide), fun _ => E6.out.symm⟩))
      · intro bf ac wv hfb haf hJ K' hK
        obtain ⟨vs, rfl, hM, j4⟩ := hJ
        replace hK := Lib.hid hK
        replace hM := Lib.hid hM
        rw [HG.out] at j4
        simp [Region.binds] at haf
        have e5 := ((j4 5 (by simp [haf])).2 (by decide)).trans E5.out
        have e6 := ((j4 6 (by simp [haf])).2 (by decide)).trans E6.out
        replace j4 := Lib.hid j4
        clear haf hfb
        rw [HLIT.out]
        go_simp
        go_at_call 15
        refine (genuine_any 8 5 T _ xL _ (HS2.out.step hM.out)).mono ?_
        rintro e w4 ⟨rfl, b4⟩
        rw [F2.out]
        exact hK.out _ _ (RS.next (wv := wv) (vs := vs) 7 (x := .bool false) (by rw [HLIT.out]; simp only [upv, e5, e6, Nat.reduceBEq, cond_true, cond_false]) (by rw [HG.out]; exact j4.out) (keep2 b4 hM.out) (by rw [HG.out]; exact fun k v h => ⟨fun q => (h.1 q).imp fun gg q2 => ⟨q2.1, q2.2.step b4⟩, h.2⟩) (by rw [HG.out]; exact ⟨fun h => absurd h (by decide), fun _ => E7.out.symm⟩))
      · intro bf ac wv hfb haf hJ K' hK
        obtain ⟨vs, rfl, hM, j4⟩ := hJ
        replace hK := Lib.hid hK
        replace hM := Lib.hid hM
        rw [HG.out] at j4
        simp [Region.binds] at haf
        have e5 := ((j4 5 (by simp [haf])).2 (by decide)).trans E5.out
        have e7 := ((j4 7 (by simp [haf])).2 (by decide)).trans E7.out
        replace j4 := Lib.hid j4
        clear haf hfb
        rw [HLIT.out]
        go_simp
        exact hK.out _ _ (RS.next (wv := wv) (vs := vs) 8 (x := .bool true) (by rw [HLIT.out]; simp only [upv, e5, e7, Nat.reduceBEq, cond_true, cond_false]) (by rw [HG.out]; exact j4.out) hM.out (by rw [HG.out]; exact fun _ _ h => h) (by rw [HG.out]; exact ⟨fun h => absurd h (by decide), fun _ => E8.out.symm⟩))
      · intro bf ac wv hfb haf hJ K' hK
        obtain ⟨vs, rfl, hM, j4⟩ := hJ
        replace hK := Lib.hid hK
        replace hM := Lib.hid hM
        rw [HG.out] at j4
        simp [Region.binds] at haf
        have e5 := ((j4 5 (by simp [haf])).2 (by decide)).trans E5.out
        have e8 := ((j4 8 (by simp [haf])).2 (by decide)).trans E8.out
        replace j4 := Lib.hid j4
        clear haf hfb
        rw [HLIT.out]
        go_simp
        exact hK.out _ _ (RS.next (wv := wv) (vs := vs) 9 (x := .bool true) (by rw [HLIT.out]; simp only [upv, e5, e8, Nat.reduceBEq, cond_true, cond_false]) (by rw [HG.out]; exact j4.out) hM.out (by rw [HG.out]; exact fun _ _ h => h) (by rw [HG.out]; exact ⟨fun h => absurd h (by decide), fun _ => E9.out.symm⟩))
      · intro bf ac wv hfb haf hJ K' hK
        obtain ⟨vs, rfl, hM, j4⟩ := hJ
        replace hK := Lib.hid hK
        replace hM := Lib.hid hM
        rw [HG.out] at j4
        simp [Region.binds] at haf
        have e9 := ((j4 9 (by simp [haf])).2 (by decide)).trans E9.out
        replace j4 := Lib.hid j4
        clear haf hfb
        rw [HLIT.out]
        go_simp
        exact hK.out _ _ (RS.next (wv := wv) (vs := vs) 10 (x := .bool true) (by rw [HLIT.out]; simp only [upv, e9, Nat.reduceBEq, cond_true, cond_false]) (by rw [HG.out]; exact j4.out) hM.out (by rw [HG.out]; exact fun _ _ h => h) (by rw [HG.out]; exact ⟨fun h => absurd h (by decide), fun _ => E10.out.symm⟩))
      · intro bf ac wv hfb haf hJ K' hK
        obtain ⟨vs, rfl, hM, j4⟩ := hJ
        replace hK := Lib.hid hK
        replace hM := Lib.hid hM
        rw [HG.out] at j4
        simp [Region.binds] at haf
        have e10 := ((j4 10 (by simp [haf])).2 (by decide)).trans E10.out
        replace j4 := Lib.hid j4
        clear haf hfb
        rw [HLIT.out]
        go_simp
        exact hK.out _ _ (RS.next (wv := wv) (vs := vs) 11 (x := .slice (some ⟨cb, co, none⟩) 4 cc) (by rw [HLIT.out]; simp only [upv, e10, Nat.reduceBEq, cond_true, cond_false]) (by rw [HG.out]; exact j4.out) hM.out (by rw [HG.out]; exact fun _ _ h => h) (by rw [HG.out]; exact ⟨fun h => absurd h (by decide), fun _ => E11.out.symm⟩))
      · intro bf ac wv hfb haf hJ K' hK
        obtain ⟨vs, rfl, hM, j4⟩ := hJ
        replace hK := Lib.hid hK
        replace hM := Lib.hid hM
        rw [HG.out] at j4
        simp [Region.binds] at haf
        have e10 := ((j4 10 (by simp [haf])).2 (by decide)).trans E10.out
        have e11 := ((j4 11 (by simp [haf])).2 (by decide)).trans E11.out
        replace j4 := Lib.hid j4
        clear haf hfb
        rw [HLIT.out]
        go_simp
        exact hK.out _ _ (RS.next (wv := wv) (vs := vs) 12 (x := .int .i64 4) (by rw [HLIT.out]; simp only [upv, e10, e11, Nat.reduceBEq, cond_true, cond_false]) (by rw [HG.out]; exact j4.out) hM.out (by rw [HG.out]; exact fun _ _ h => h) (by rw [HG.out]; exact ⟨fun h => absurd h (by decide), fun _ => E12.out.symm⟩))
      · intro bf ac wv hfb haf hJ K' hK
        obtain ⟨vs, rfl, hM, j4⟩ := hJ
        replace hK := Lib.hid hK
        replace hM := Lib.hid hM
        rw [HG.out] at j4
        simp [Region.binds] at haf
        have e10 := ((j4 10 (by simp [haf])).2 (by decide)).trans E10.out
        have e12 := ((j4 12 (by simp [haf])).2 (by decide)).trans E12.out
        replace j4 := Lib.hid j4
        clear haf hfb
        rw [HLIT.out]
        go_simp
        exact hK.out _ _ (RS.next (wv := wv) (vs := vs) 13 (x := .bool true) (by rw [HLIT.out]; simp only [upv, e10, e12, Nat.reduceBEq, cond_true, cond_false]) (by rw [HG.out]; exact j4.out) hM.out (by rw [HG.out]; exact fun _ _ h => h) (by rw [HG.out]; exact ⟨fun h => absurd h (by decide), fun _ => E13.out.symm⟩))
      · intro bf ac wv hfb haf hJ K' hK
        obtain ⟨vs, rfl, hM, j4⟩ := hJ
        replace hK := Lib.hid hK
        replace hM := Lib.hid hM
        rw [HG.out] at j4
        simp [Region.binds] at haf
        have e10 := ((j4 10 (by simp [haf])).2 (by decide)).trans E10.out
        have e13 := ((j4 13 (by simp [haf])).2 (by decide)).trans E13.out
        replace j4 := Lib.hid j4
        clear haf hfb
        rw [HLIT.out]
        go_simp
        exact hK.out _ _ (RS.next (wv := wv) (vs := vs) 14 (x := .bool true) (by rw [HLIT.out]; simp only [upv, e10, e13, Nat.reduceBEq, cond_true, cond_false]) (by rw [HG.out]; exact j4.out) hM.out (by rw [HG.out]; exact fun _ _ h => h) (by rw [HG.out]; exact ⟨fun h => absurd h (by decide), fun _ => E14.out.symm⟩))
      · intro bf ac wv hfb haf hJ K' hK
        obtain ⟨vs, rfl, hM, j4⟩ := hJ
        replace hK := Lib.hid hK
        replace hM := Lib.hid hM
        rw [HG.out] at j4
        simp [Region.binds] at haf
        have e14 := ((j4 14 (by simp [haf])).2 (by decide)).trans E14.out
        replace j4 := Lib.hid j4
        clear haf hfb
        rw [HLIT.out]
        go_simp
        exact hK.out _ _ (RS.next (wv := wv) (vs := vs) 15 (x := .bool true) (by rw [HLIT.out]; simp only [upv, e14, Nat.reduceBEq, cond_true, cond_false]) (by rw [HG.out]; exact j4.out) hM.out (by rw [HG.out]; exact fun _ _ h => h) (by rw [HG.out]; exact ⟨fun h => absurd h (by decide), fun _ => E15.out.symm⟩))
      · intro bf ac wv hfb haf hJ K' hK
        obtain ⟨vs, rfl, hM, j4⟩ := hJ
        replace hK := Lib.hid hK
        replace hM := Lib.hid hM
        rw [HG.out] at j4
        simp [Region.binds] at haf
        have e15 := ((j4 15 (by simp [haf])).2 (by decide)).trans E15.out
        replace j4 := Lib.hid j4
        clear haf hfb
        rw [HLIT.out]
        go_simp
        exact hK.out _ _ (RS.next (wv := wv) (vs := vs) 16 (x := .slice (some ⟨cb, co, none⟩) 4 cc) (by rw [HLIT.out]; simp only [upv, e15, Nat.reduceBEq, cond_true, cond_false]) (by rw [HG.out]; exact j4.out) hM.out (by rw [HG.out]; exact fun _ _ h => h) (by rw [HG.out]; exact ⟨fun h => absurd h (by decide), fun _ => E16.out.symm⟩))
      · intro bf ac wv hfb haf hJ K' hK
        obtain ⟨vs, rfl, hM, j4⟩ := hJ
        replace hK := Lib.hid hK
        replace hM := Lib.hid hM
        rw [HG.out] at j4
        simp [Region.binds] at haf
        have e15 := ((j4 15 (by simp [haf])).2 (by decide)).trans E15.out
        have e16 := ((j4 16 (by simp [haf])).2 (by decide)).trans E16.out
        replace j4 := Lib.hid j4
        clear haf hfb
        rw [HLIT.out]
        go_simp
        exact hK.out _ _ (RS.next (wv := wv) (vs := vs) 17 (x := .pointer (some ⟨cb, co + 3, none⟩)) (by rw [HLIT.out]; simp only [upv, e15, e16, Nat.reduceBEq, cond_true, cond_false]) (by rw [HG.out]; exact j4.out) hM.out (by rw [HG.out]; exact fun _ _ h => h) (by rw [HG.out]; exact ⟨fun h => absurd h (by decide), fun _ => E17.out.symm⟩))
      · intro bf ac wv hfb haf hJ K' hK
        obtain ⟨vs, rfl, hM, j4⟩ := hJ
        replace hK := Lib.hid hK
        replace hM := Lib.hid hM
        rw [HG.out] at j4
        simp [Region.binds] at haf
        have e15 := ((j4 15 (by simp [haf])).2 (by decide)).trans E15.out
        have e17 := ((j4 17 (by simp [haf])).2 (by decide)).trans E17.out
        replace j4 := Lib.hid j4
        clear haf hfb
        have xg := keep1 hM.out c3.out
        have xgz := World.block_lt_of_cell? _ _ xg
        have xgz : cb < wv.heap.size := xgz
        rw [HLIT.out]
        go_simp
        exact hK.out _ _ (RS.next (wv := wv) (vs := vs) 18 (x := .int .i64 T) (by rw [HLIT.out]; simp only [upv, e15, e17, Nat.reduceBEq, cond_true, cond_false]) (by rw [HG.out]; exact j4.out) hM.out (by rw [HG.out]; exact fun _ _ h => h) (by rw [HG.out]; exact ⟨fun h => absurd h (by decide), fun _ => E18.out.symm⟩))
      · intro bf ac wv hfb haf hJ K' hK
        obtain ⟨vs, rfl, hM, j4⟩ := hJ
        replace hK := Lib.hid hK
        replace hM := Lib.hid hM
        rw [HG.out] at j4
        simp [Region.binds] at haf
        have e15 := ((j4 15 (by simp [haf])).2 (by decide)).trans E15.out
        replace j4 := Lib.hid j4
        clear haf hfb
        rw [HLIT.out]
        go_simp
        exact hK.out _ _ (RS.next (wv := wv) (vs := vs) 19 (x := .pointer (some ⟨u.heap.size, 2, none⟩)) (by rw [HLIT.out]; simp only [upv, e15, Nat.reduceBEq, cond_true, cond_false]) (by rw [HG.out]; exact j4.out) hM.out (by rw [HG.out]; exact fun _ _ h => h) (by rw [HG.out]; exact ⟨fun h => absurd h (by decide), fun _ => E19.out.symm⟩))
      · intro bf ac wv hfb haf hJ K' hK
        obtain ⟨vs, rfl, hM, j4⟩ := hJ
        replace hK := Lib.hid hK
        replace hM := Lib.hid hM
        rw [HG.out] at j4
        simp [Region.binds] at haf
        have e15 := ((j4 15 (by simp [haf])).2 (by decide)).trans E15.out
        have e19 := ((j4 19 (by simp [haf])).2 (by decide)).trans E19.out
        replace j4 := Lib.hid j4
        clear haf hfb
        have K1 := KA_501.out.step hM.out
        have x2 := K1.c 2 rfl
        have xz := K1.2.2
        clear K1
        rw [HLIT.out]
        go_simp
        exact hK.out _ _ (RS.next (wv := wv) (vs := vs) 20 (x := .int .i64 T) (by rw [HLIT.out]; simp only [upv, e15, e19, Nat.reduceBEq, cond_true, cond_false]) (by rw [HG.out]; exact j4.out) hM.out (by rw [HG.out]; exact fun _ _ h => h) (by rw [HG.out]; exact ⟨fun h => absurd h (by decide), fun _ => E20.out.symm⟩))
      · intro bf ac wv hfb haf hJ K' hK
        obtain ⟨vs, rfl, hM, j4⟩ := hJ
        replace hK := Lib.hid hK
        replace hM := Lib.hid hM
        rw [HG.out] at j4
        simp [Region.binds] at haf
        have e15 := ((j4 15 (by simp [haf])).2 (by decide)).trans E15.out
        have e18 := ((j4 18 (by simp [haf])).2 (by decide)).trans E18.out
        have e20 := ((j4 20 (by simp [haf])).2 (by decide)).trans E20.out
        replace j4 := Lib.hid j4
        clear haf hfb
        rw [HLIT.out]
        go_simp
        exact hK.out _ _ (RS.next (wv := wv) (vs := vs) 21 (x := .bool true) (by rw [HLIT.out]; simp only [upv, e15, e18, e20, Nat.reduceBEq, cond_true, cond_false]) (by rw [HG.out]; exact j4.out) hM.out (by rw [HG.out]; exact fun _ _ h => h) (by rw [HG.out]; exact ⟨fun h => absurd h (by decide), fun _ => E21.out.symm⟩))
      · intro bf ac wv hfb haf hJ K' hK
        obtain ⟨vs, rfl, hM, j4⟩ := hJ
        replace hK := Lib.hid hK
        replace hM := Lib.hid hM
        rw [HG.out] at j4
        simp [Region.binds] at haf
        have e15 := ((j4 15 (by simp [haf])).2 (by decide)).trans E15.out
        have e21 := ((j4 21 (by simp [haf])).2 (by decide)).trans E21.out
        replace j4 := Lib.hid j4
        clear haf hfb
        rw [HLIT.out]
        go_simp
        exact hK.out _ _ (RS.next (wv := wv) (vs := vs) 22 (x := .bool true) (by rw [HLIT.out]; simp only [upv, e15, e21, Nat.reduceBEq, cond_true, cond_false]) (by rw [HG.out]; exact j4.out) hM.out (by rw [HG.out]; exact fun _ _ h => h) (by rw [HG.out]; exact ⟨fun h => absurd h (by decide), fun _ => E22.out.symm⟩))
      · intro bf ac wv hfb haf hJ K' hK
        obtain ⟨vs, rfl, hM, j4⟩ := hJ
        replace hK := Lib.hid hK
        replace hM := Lib.hid hM
        rw [HG.out] at j4
        simp [Region.binds] at haf
        have e22 := ((j4 22 (by simp [haf])).2 (by decide)).trans E22.out
        replace j4 := Lib.hid j4
        clear haf hfb
        rw [HLIT.out]
        go_simp
        exact hK.out _ _ (RS.next (wv := wv) (vs := vs) 23 (x := .bool true) (by rw [HLIT.out]; simp only [upv, e22, Nat.reduceBEq, cond_true, cond_false]) (by rw [HG.out]; exact j4.out) hM.out (by rw [HG.out]; exact fun _ _ h => h) (by rw [HG.out]; exact ⟨fun h => absurd h (by decide), fun _ => E23.out.symm⟩))
      · intro bf ac wv hfb haf hJ K' hK
        obtain ⟨vs, rfl, hM, j4⟩ := hJ
        replace hK := Lib.hid hK
        replace hM := Lib.hid hM
        rw [HG.out] at j4
        simp [Region.binds] at haf
        have e23 := ((j4 23 (by simp [haf])).2 (by decide)).trans E23.out
        replace j4 := Lib.hid j4
        clear haf hfb
        rw [HLIT.out]
        go_simp
        exact hK.out _ _ (RS.next (wv := wv) (vs := vs) 24 (x := .slice (some ⟨cb, co, none⟩) 4 cc) (by rw [HLIT.out]; simp only [upv, e23, Nat.reduceBEq, cond_true, cond_false]) (by rw [HG.out]; exact j4.out) hM.out (by rw [HG.out]; exact fun _ _ h => h) (by rw [HG.out]; exact ⟨fun h => absurd h (by decide), fun _ => E24.out.symm⟩))
      · intro bf ac wv hfb haf hJ K' hK
        obtain ⟨vs, rfl, hM, j4⟩ := hJ
        replace hK := Lib.hid hK
        replace hM := Lib.hid hM
        rw [HG.out] at j4
        simp [Region.binds] at haf
        have e23 := ((j4 23 (by simp [haf])).2 (by decide)).trans E23.out
        have e24 := ((j4 24 (by simp [haf])).2 (by decide)).trans E24.out
        replace j4 := Lib.hid j4
        clear haf hfb
        rw [HLIT.out]
        go_simp
        exact hK.out _ _ (RS.next (wv := wv) (vs := vs) 25 (x := .pointer (some ⟨cb, co, none⟩)) (by rw [HLIT.out]; simp only [upv, e23, e24, Nat.reduceBEq, cond_true, cond_false]) (by rw [HG.out]; exact j4.out) hM.out (by rw [HG.out]; exact fun _ _ h => h) (by rw [HG.out]; exact ⟨fun h => absurd h (by decide), fun _ => E25.out.symm⟩))
      · intro bf ac wv hfb haf hJ K' hK
        obtain ⟨vs, rfl, hM, j4⟩ := hJ
        replace hK := Lib.hid hK
        replace hM := Lib.hid hM
        rw [HG.out] at j4
        simp [Region.binds] at haf
        have e23 := ((j4 23 (by simp [haf])).2 (by decide)).trans E23.out
        have e25 := ((j4 25 (by simp [haf])).2 (by decide)).trans E25.out
        replace j4 := Lib.hid j4
        clear haf hfb
        have xg := keep1 hM.out c0.out
        have xgz := World.block_lt_of_cell? _ _ xg
        have xgz : cb < wv.heap.size := xgz
        rw [HLIT.out]
        go_simp
        exact hK.out _ _ (RS.next (wv := wv) (vs := vs) 26 (x := .int .i64 C0) (by rw [HLIT.out]; simp only [upv, e23, e25, Nat.reduceBEq, cond_true, cond_false]) (by rw [HG.out]; exact j4.out) hM.out (by rw [HG.out]; exact fun _ _ h => h) (by rw [HG.out]; exact ⟨fun h => absurd h (by decide), fun _ => E26.out.symm⟩))
      · intro bf ac wv hfb haf hJ K' hK
        obtain ⟨vs, rfl, hM, j4⟩ := hJ
        replace hK := Lib.hid hK
        replace hM := Lib.hid hM
        rw [HG.out] at j4
        simp [Region.binds] at haf
        have e23 := ((j4 23 (by simp [haf])).2 (by decide)).trans E23.out
        replace j4 := Lib.hid j4
        clear haf hfb
        rw [HLIT.out]
        go_simp
        have b4 := al wv (.cells #[.int .i64 5] 3)
        exact hK.out _ _ (RS.next (wv := wv) (vs := vs) 27 (x := .slice (some ⟨wv.heap.size, 0, none⟩) 1 1) (by rw [HLIT.out]; simp only [upv, e23, Nat.reduceBEq, cond_true, cond_false]) (by rw [HG.out]; exact j4.out) (keep2 b4 hM.out) (by rw [HG.out]; exact fun k v h => ⟨fun q => (h.1 q).imp fun gg q2 => ⟨q2.1, q2.2.step b4⟩, h.2⟩) (by rw [HG.out]; exact ⟨fun _ => ⟨wv.heap.size, rfl, ints_lit wv [5] _ 3 rfl (by simp) 1 rfl _ rfl⟩, fun h27 => absurd rfl h27⟩))
      · intro bf ac wv hfb haf hJ K' hK
        obtain ⟨vs, rfl, hM, j4⟩ := hJ
        replace hK := Lib.hid hK
        replace hM := Lib.hid hM
        rw [HG.out] at j4
        simp [Region.binds] at haf
        have e23 := ((j4 23 (by simp [haf])).2 (by decide)).trans E23.out
        have e27 := (j4 27 (by simp [haf])).1 rfl
        replace j4 := Lib.hid j4
        clear haf hfb
        obtain ⟨gg, e27, hgi⟩ := e27
        rw [e27] at hgi
        rw [HLIT.out]
        go_simp
        go_at_call 27
        refine (HTG.out _ _ hgi).mono ?_
        rintro e w4 ⟨rfl, b4⟩
        exact hK.out _ _ (RS.next (wv := wv) (vs := vs) 28 (x := .int .i64 C0) (by rw [HLIT.out]; simp only [upv, e23, e27, Nat.reduceBEq, cond_true, cond_false]) (by rw [HG.out]; exact j4.out) (keep2 b4 hM.out) (by rw [HG.out]; exact fun k v h => ⟨fun q => (h.1 q).imp fun gg q2 => ⟨q2.1, q2.2.step b4⟩, h.2⟩) (by rw [HG.out]; exact ⟨fun h => absurd h (by decide), fun _ => E28.out.symm⟩))
      · intro bf ac wv hfb haf hJ K' hK
        obtain ⟨vs, rfl, hM, j4⟩ := hJ
        replace hK := Lib.hid hK
        replace hM := Lib.hid hM
        rw [HG.out] at j4
        simp [Region.binds] at haf
        have e23 := ((j4 23 (by simp [haf])).2 (by decide)).trans E23.out
        have e26 := ((j4 26 (by simp [haf])).2 (by decide)).trans E26.out
        have e28 := ((j4 28 (by simp [haf])).2 (by decide)).trans E28.out
        replace j4 := Lib.hid j4
        clear haf hfb
        rw [HLIT.out]
        go_simp
        exact hK.out _ _ (RS.next (wv := wv) (vs := vs) 29 (x := .bool true) (by rw [HLIT.out]; simp only [upv, e23, e26, e28, Nat.reduceBEq, cond_true, cond_false]) (by rw [HG.out]; exact j4.out) hM.out (by rw [HG.out]; exact fun _ _ h => h) (by rw [HG.out]; exact ⟨fun h => absurd h (by decide), fun _ => E29.out.symm⟩))
      · intro bf ac wv hfb haf hJ K' hK
        obtain ⟨vs, rfl, hM, j4⟩ := hJ
        replace hK := Lib.hid hK
        replace hM := Lib.hid hM
        rw [HG.out] at j4
        simp [Region.binds] at haf
        have e23 := ((j4 23 (by simp [haf])).2 (by decide)).trans E23.out
        have e29 := ((j4 29 (by simp [haf])).2 (by decide)).trans E29.out
        replace j4 := Lib.hid j4
        clear haf hfb
        rw [HLIT.out]
        go_simp
        exact hK.out _ _ (RS.next (wv := wv) (vs := vs) 30 (x := .bool true) (by rw [HLIT.out]; simp only [upv, e23, e29, Nat.reduceBEq, cond_true, cond_false]) (by rw [HG.out]; exact j4.out) hM.out (by rw [HG.out]; exact fun _ _ h => h) (by rw [HG.out]; exact ⟨fun h => absurd h (by decide), fun _ => E30.out.symm⟩))
      · intro bf ac wv hfb haf hJ K' hK
        obtain ⟨vs, rfl, hM, j4⟩ := hJ
        replace hK := Lib.hid hK
        replace hM := Lib.hid hM
        rw [HG.out] at j4
        simp [Region.binds] at haf
        have e30 := ((j4 30 (by simp [haf])).2 (by decide)).trans E30.out
        replace j4 := Lib.hid j4
        clear haf hfb
        rw [HLIT.out]
        go_simp
        exact hK.out _ _ (RS.next (wv := wv) (vs := vs) 31 (x := .bool true) (by rw [HLIT.out]; simp only [upv, e30, Nat.reduceBEq, cond_true, cond_false]) (by rw [HG.out]; exact j4.out) hM.out (by rw [HG.out]; exact fun _ _ h => h) (by rw [HG.out]; exact ⟨fun h => absurd h (by decide), fun _ => E31.out.symm⟩))
    · intro bf ac wv hall hJ
      obtain ⟨vs, rfl, hM, j4⟩ := hJ
      rw [HG.out] at j4
      have e31 := ((j4 31 (hall 31 (by decide))).2 (by decide)).trans E31.out
      replace hM := Lib.hid hM
      clear hall j4
      rw [HLIT.out]
      dsimp only
      rw [e31]
      clear e31
      have LA := Lib.hid (KA_501.out.step hM.out)
      have LP := Lib.hid (KP_502.out.step hM.out)
      have LQ := Lib.hid (KQ_503.out.step hM.out)
      have LR := Lib.hid (KR_504.out.step hM.out)
      have LS := Lib.hid (KS_505.out.step hM.out)
      have LG := Lib.hid (KG_506.out.step hM.out)
      have HS4 := Lib.hid (HS2.out.step hM.out)
      have HM4 := Lib.hid (HM2.out.step hM.out)
      have HB10 := Lib.hid (keep2 hM.out HB507.out)
      clear hM HS2 HM2 HB507 KA_501 KP_502 KQ_503 KR_504 KS_505 KG_506
      have HBX := Lib.hid (Below.refl wv.heap.size wv)
      obtain ⟨k0, k1, k2, k3, k4, k5, k6, k7, k8⟩ := x_ck
      rw [← hT.out] at k0 k1 k2 k3 k4 k5 k6 k7 k8
      replace k0 := Lib.hid k0
      have HK0 := k0
      clear k0
      replace k1 := Lib.hid k1
      have HK1 := k1
      clear k1
      replace k2 := Lib.hid k2
      have HK2 := k2
      clear k2
      replace k3 := Lib.hid k3
      have HK3 := k3
      clear k3
      replace k4 := Lib.hid k4
      have HK4 := k4
      clear k4
      replace k5 := Lib.hid k5
      have HK5 := k5
      clear k5
      replace k6 := Lib.hid k6
      have HK6 := k6
      clear k6
      replace k7 := Lib.hid k7
      have HK7 := k7
      clear k7
      replace k8 := Lib.hid k8
      have HK8 := k8
      clear k8
      have xA0 : wv.cell? ⟨u.heap.size, 0, none⟩ = some (.int .i64 5) := LA.out.c 0 rfl
      have xA1 : wv.cell? ⟨u.heap.size, 1, none⟩ = some (.slice (some ⟨b, off, none⟩) 3 cap) := LA.out.c 1 rfl
      have xA2 : wv.cell? ⟨u.heap.size, 2, none⟩ = some (.int .i64 T) := LA.out.c 2 rfl
      have zA : u.heap.size < wv.heap.size := LA.out.2.2
      have z2A : u.heap.size < wv.heap.size + 1 := by omega
      have xP0 : wv.cell? ⟨u.heap.size + 1, 0, none⟩ = some (.int .i64 2) := LP.out.c 0 rfl
      have xP1 : wv.cell? ⟨u.heap.size + 1, 1, none⟩ = some (.int .i64 7) := LP.out.c 1 rfl
      have xP2 : wv.cell? ⟨u.heap.size + 1, 2, none⟩ = some (.int .i64 1) := LP.out.c 2 rfl
      have xP3 : wv.cell? ⟨u.heap.size + 1, 3, none⟩ = some (.int .i64 99) := LP.out.c 3 rfl
      have zP : u.heap.size + 1 < wv.heap.size := LP.out.2.2
      have z2P : u.heap.size + 1 < wv.heap.size + 1 := by omega
      go_wp2_with fail
      refine (check_any 9 5 T 2 7 1 99 1 _ xL _ (HS4.out.step HBX.out)).mono ?_
      rintro e u21 ⟨rfl, b21⟩
      clear xA0 xA1 xA2 zA z2A xP0 xP1 xP2 xP3 zP z2P
      have KA_901 := Lib.hid (LA.out.step b21)
      clear LA
      have KP_902 := Lib.hid (LP.out.step b21)
      clear LP
      have KQ_903 := Lib.hid (LQ.out.step b21)
      clear LQ
      have KR_904 := Lib.hid (LR.out.step b21)
      clear LR
      have KS_905 := Lib.hid (LS.out.step b21)
      clear LS
      have KG_906 := Lib.hid (LG.out.step b21)
      clear LG
      have HB907 := Lib.hid (keep2 b21 HBX.out)
      clear HBX b21
      rw [show ckV 9 5 T xL 2 7 1 99 1 = 0 from HK0.out]
      have xA0 : u21.cell? ⟨u.heap.size, 0, none⟩ = some (.int .i64 5) := KA_901.out.c 0 rfl
      have xA1 : u21.cell? ⟨u.heap.size, 1, none⟩ = some (.slice (some ⟨b, off, none⟩) 3 cap) := KA_901.out.c 1 rfl
      have xA2 : u21.cell? ⟨u.heap.size, 2, none⟩ = some (.int .i64 T) := KA_901.out.c 2 rfl
      have zA : u.heap.size < u21.heap.size := KA_901.out.2.2
      have z2A : u.heap.size < u21.heap.size + 1 := by omega
      have xQ0 : u21.cell? ⟨u.heap.size + 1 + 1, 0, none⟩ = some (.int .i64 2) := KQ_903.out.c 0 rfl
      have xQ1 : u21.cell? ⟨u.heap.size + 1 + 1, 1, none⟩ = some (.int .i64 7) := KQ_903.out.c 1 rfl
      have xQ2 : u21.cell? ⟨u.heap.size + 1 + 1, 2, none⟩ = some (.int .i64 1) := KQ_903.out.c 2 rfl
      have xQ3 : u21.cell? ⟨u.heap.size + 1 + 1, 3, none⟩ = some (.int .i64 100) := KQ_903.out.c 3 rfl
      have zQ : u.heap.size + 1 + 1 < u21.heap.size := KQ_903.out.2.2
      have z2Q : u.heap.size + 1 + 1 < u21.heap.size + 1 := by omega
      go_wp2_with fail
      refine (check_any 9 5 T 2 7 1 100 1 _ xL _ (HS4.out.step HB907.out)).mono ?_
      rintro e u22 ⟨rfl, b22⟩
      clear xA0 xA1 xA2 zA z2A xQ0 xQ1 xQ2 xQ3 zQ z2Q
      have KA_908 := Lib.hid (KA_901.out.step b22)
      clear KA_901
      have KP_909 := Lib.hid (KP_902.out.step b22)
      clear KP_902
      have KQ_910 := Lib.hid (KQ_903.out.step b22)
      clear KQ_903
      have KR_911 := Lib.hid (KR_904.out.step b22)
      clear KR_904
      have KS_912 := Lib.hid (KS_905.out.step b22)
      clear KS_905
      have KG_913 := Lib.hid (KG_906.out.step b22)
      clear KG_906
      have HB914 := Lib.hid (keep2 b22 HB907.out)
      clear HB907 b22
      rw [show ckV 9 5 T xL 2 7 1 100 1 = 20 from HK1.out]
      have xA0 : u22.cell? ⟨u.heap.size, 0, none⟩ = some (.int .i64 5) := KA_908.out.c 0 rfl
      have xA1 : u22.cell? ⟨u.heap.size, 1, none⟩ = some (.slice (some ⟨b, off, none⟩) 3 cap) := KA_908.out.c 1 rfl
      have xA2 : u22.cell? ⟨u.heap.size, 2, none⟩ = some (.int .i64 T) := KA_908.out.c 2 rfl
      have zA : u.heap.size < u22.heap.size := KA_908.out.2.2
      have z2A : u.heap.size < u22.heap.size + 1 := by omega
      have xR0 : u22.cell? ⟨u.heap.size + 1 + 1 + 1, 0, none⟩ = some (.int .i64 3) := KR_911.out.c 0 rfl
      have xR1 : u22.cell? ⟨u.heap.size + 1 + 1 + 1, 1, none⟩ = some (.int .i64 7) := KR_911.out.c 1 rfl
      have xR2 : u22.cell? ⟨u.heap.size + 1 + 1 + 1, 2, none⟩ = some (.int .i64 1) := KR_911.out.c 2 rfl
      have xR3 : u22.cell? ⟨u.heap.size + 1 + 1 + 1, 3, none⟩ = some (.int .i64 99) := KR_911.out.c 3 rfl
      have zR : u.heap.size + 1 + 1 + 1 < u22.heap.size := KR_911.out.2.2
      have z2R : u.heap.size + 1 + 1 + 1 < u22.heap.size + 1 := by omega
      go_wp2_with fail
      refine (check_any 9 5 T 3 7 1 99 1 _ xL _ (HS4.out.step HB914.out)).mono ?_
      rintro e u23 ⟨rfl, b23⟩
      clear xA0 xA1 xA2 zA z2A xR0 xR1 xR2 xR3 zR z2R
      have KA_915 := Lib.hid (KA_908.out.step b23)
      clear KA_908
      have KP_916 := Lib.hid (KP_909.out.step b23)
      clear KP_909
      have KQ_917 := Lib.hid (KQ_910.out.step b23)
      clear KQ_910
      have KR_918 := Lib.hid (KR_911.out.step b23)
      clear KR_911
      have KS_919 := Lib.hid (KS_912.out.step b23)
      clear KS_912
      have KG_920 := Lib.hid (KG_913.out.step b23)
      clear KG_913
      have HB921 := Lib.hid (keep2 b23 HB914.out)
      clear HB914 b23
      rw [show ckV 9 5 T xL 3 7 1 99 1 = 18 from HK2.out]
      have xA0 : u23.cell? ⟨u.heap.size, 0, none⟩ = some (.int .i64 5) := KA_915.out.c 0 rfl
      have xA1 : u23.cell? ⟨u.heap.size, 1, none⟩ = some (.slice (some ⟨b, off, none⟩) 3 cap) := KA_915.out.c 1 rfl
      have xA2 : u23.cell? ⟨u.heap.size, 2, none⟩ = some (.int .i64 T) := KA_915.out.c 2 rfl
      have zA : u.heap.size < u23.heap.size := KA_915.out.2.2
      have z2A : u.heap.size < u23.heap.size + 1 := by omega
      have xP0 : u23.cell? ⟨u.heap.size + 1, 0, none⟩ = some (.int .i64 2) := KP_916.out.c 0 rfl
      have xP1 : u23.cell? ⟨u.heap.size + 1, 1, none⟩ = some (.int .i64 7) := KP_916.out.c 1 rfl
      have xP2 : u23.cell? ⟨u.heap.size + 1, 2, none⟩ = some (.int .i64 1) := KP_916.out.c 2 rfl
      have xP3 : u23.cell? ⟨u.heap.size + 1, 3, none⟩ = some (.int .i64 99) := KP_916.out.c 3 rfl
      have zP : u.heap.size + 1 < u23.heap.size := KP_916.out.2.2
      have z2P : u.heap.size + 1 < u23.heap.size + 1 := by omega
      go_wp2_with fail
      refine (check_any 9 5 T 2 7 1 99 2 _ xL _ (HS4.out.step HB921.out)).mono ?_
      rintro e u24 ⟨rfl, b24⟩
      clear xA0 xA1 xA2 zA z2A xP0 xP1 xP2 xP3 zP z2P
      have KA_922 := Lib.hid (KA_915.out.step b24)
      clear KA_915
      have KP_923 := Lib.hid (KP_916.out.step b24)
      clear KP_916
      have KQ_924 := Lib.hid (KQ_917.out.step b24)
      clear KQ_917
      have KR_925 := Lib.hid (KR_918.out.step b24)
      clear KR_918
      have KS_926 := Lib.hid (KS_919.out.step b24)
      clear KS_919
      have KG_927 := Lib.hid (KG_920.out.step b24)
      clear KG_920
      have HB928 := Lib.hid (keep2 b24 HB921.out)
      clear HB921 b24
      rw [show ckV 9 5 T xL 2 7 1 99 2 = 19 from HK3.out]
      have xA0 : u24.cell? ⟨u.heap.size, 0, none⟩ = some (.int .i64 5) := KA_922.out.c 0 rfl
      have xA1 : u24.cell? ⟨u.heap.size, 1, none⟩ = some (.slice (some ⟨b, off, none⟩) 3 cap) := KA_922.out.c 1 rfl
      have xA2 : u24.cell? ⟨u.heap.size, 2, none⟩ = some (.int .i64 T) := KA_922.out.c 2 rfl
      have zA : u.heap.size < u24.heap.size := KA_922.out.2.2
      have z2A : u.heap.size < u24.heap.size + 1 := by omega
      have xS0 : u24.cell? ⟨u.heap.size + 1 + 1 + 1 + 1, 0, none⟩ = some (.int .i64 3) := KS_926.out.c 0 rfl
      have xS1 : u24.cell? ⟨u.heap.size + 1 + 1 + 1 + 1, 1, none⟩ = some (.int .i64 7) := KS_926.out.c 1 rfl
      have xS2 : u24.cell? ⟨u.heap.size + 1 + 1 + 1 + 1, 2, none⟩ = some (.int .i64 1) := KS_926.out.c 2 rfl
      have xS3 : u24.cell? ⟨u.heap.size + 1 + 1 + 1 + 1, 3, none⟩ = some (.int .i64 100) := KS_926.out.c 3 rfl
      have zS : u.heap.size + 1 + 1 + 1 + 1 < u24.heap.size := KS_926.out.2.2
      have z2S : u.heap.size + 1 + 1 + 1 + 1 < u24.heap.size + 1 := by omega
      go_wp2_with fail
      refine (check_any 9 5 T 3 7 1 100 2 _ xL _ (HS4.out.step HB928.out)).mono ?_
      rintro e u25 ⟨rfl, b25⟩
      clear xA0 xA1 xA2 zA z2A xS0 xS1 xS2 xS3 zS z2S
      have KA_929 := Lib.hid (KA_922.out.step b25)
      clear KA_922
      have KP_930 := Lib.hid (KP_923.out.step b25)
      clear KP_923
      have KQ_931 := Lib.hid (KQ_924.out.step b25)
      clear KQ_924
      have KR_932 := Lib.hid (KR_925.out.step b25)
      clear KR_925
      have KS_933 := Lib.hid (KS_926.out.step b25)
      clear KS_926
      have KG_934 := Lib.hid (KG_927.out.step b25)
      clear KG_927
      have HB935 := Lib.hid (keep2 b25 HB928.out)
      clear HB928 b25
      rw [show ckV 9 5 T xL 3 7 1 100 2 = 18 from HK4.out]
      have xP0 : u25.cell? ⟨u.heap.size + 1, 0, none⟩ = some (.int .i64 2) := KP_930.out.c 0 rfl
      have xP1 : u25.cell? ⟨u.heap.size + 1, 1, none⟩ = some (.int .i64 7) := KP_930.out.c 1 rfl
      have xP2 : u25.cell? ⟨u.heap.size + 1, 2, none⟩ = some (.int .i64 1) := KP_930.out.c 2 rfl
      have xP3 : u25.cell? ⟨u.heap.size + 1, 3, none⟩ = some (.int .i64 99) := KP_930.out.c 3 rfl
      have zP : u.heap.size + 1 < u25.heap.size := KP_930.out.2.2
      have z2P : u.heap.size + 1 < u25.heap.size + 1 := by omega
      have xG0 : u25.cell? ⟨g, 0, none⟩ = some (.int .i64 5) := KG_934.out.c 0 rfl
      have xG1 : u25.cell? ⟨g, 1, none⟩ = some (.slice (some ⟨b, off, none⟩) 2 cap) := KG_934.out.c 1 rfl
      have xG2 : u25.cell? ⟨g, 2, none⟩ = some (.int .i64 T) := KG_934.out.c 2 rfl
      have zG : g < u25.heap.size := KG_934.out.2.2
      have z2G : g < u25.heap.size + 1 := by omega
      go_wp2_with fail
      refine (check_any 9 5 T 2 7 1 99 1 _ xM _ (HM4.out.step HB935.out)).mono ?_
      rintro e u26 ⟨rfl, b26⟩
      clear xP0 xP1 xP2 xP3 zP z2P xG0 xG1 xG2 zG z2G
      have KA_936 := Lib.hid (KA_929.out.step b26)
      clear KA_929
      have KP_937 := Lib.hid (KP_930.out.step b26)
      clear KP_930
      have KQ_938 := Lib.hid (KQ_931.out.step b26)
      clear KQ_931
      have KR_939 := Lib.hid (KR_932.out.step b26)
      clear KR_932
      have KS_940 := Lib.hid (KS_933.out.step b26)
      clear KS_933
      have KG_941 := Lib.hid (KG_934.out.step b26)
      clear KG_934
      have HB942 := Lib.hid (keep2 b26 HB935.out)
      clear HB935 b26
      rw [show ckV 9 5 T xM 2 7 1 99 1 = 15 from HK5.out]
      have xP0 : u26.cell? ⟨u.heap.size + 1, 0, none⟩ = some (.int .i64 2) := KP_937.out.c 0 rfl
      have xP1 : u26.cell? ⟨u.heap.size + 1, 1, none⟩ = some (.int .i64 7) := KP_937.out.c 1 rfl
      have xP2 : u26.cell? ⟨u.heap.size + 1, 2, none⟩ = some (.int .i64 1) := KP_937.out.c 2 rfl
      have xP3 : u26.cell? ⟨u.heap.size + 1, 3, none⟩ = some (.int .i64 99) := KP_937.out.c 3 rfl
      have zP : u.heap.size + 1 < u26.heap.size := KP_937.out.2.2
      have z2P : u.heap.size + 1 < u26.heap.size + 1 := by omega
      have xG0 : u26.cell? ⟨g, 0, none⟩ = some (.int .i64 5) := KG_941.out.c 0 rfl
      have xG1 : u26.cell? ⟨g, 1, none⟩ = some (.slice (some ⟨b, off, none⟩) 2 cap) := KG_941.out.c 1 rfl
      have xG2 : u26.cell? ⟨g, 2, none⟩ = some (.int .i64 T) := KG_941.out.c 2 rfl
      have zG : g < u26.heap.size := KG_941.out.2.2
      have z2G : g < u26.heap.size + 1 := by omega
      go_wp2_with fail
      refine (permits_any 5 T 2 7 1 99 5 _ xM _ (HM4.out.step HB942.out)).mono ?_
      rintro e u27 ⟨rfl, b27⟩
      clear xP0 xP1 xP2 xP3 zP z2P xG0 xG1 xG2 zG z2G
      have KA_943 := Lib.hid (KA_936.out.step b27)
      clear KA_936
      have KP_944 := Lib.hid (KP_937.out.step b27)
      clear KP_937
      have KQ_945 := Lib.hid (KQ_938.out.step b27)
      clear KQ_938
      have KR_946 := Lib.hid (KR_939.out.step b27)
      clear KR_939
      have KS_947 := Lib.hid (KS_940.out.step b27)
      clear KS_940
      have KG_948 := Lib.hid (KG_941.out.step b27)
      clear KG_941
      have HB949 := Lib.hid (keep2 b27 HB942.out)
      clear HB942 b27
      rw [show pmE 5 T xM 2 7 1 99 5 = 0 from HK6.out]
      have xA0 : u27.cell? ⟨u.heap.size, 0, none⟩ = some (.int .i64 5) := KA_943.out.c 0 rfl
      have xA1 : u27.cell? ⟨u.heap.size, 1, none⟩ = some (.slice (some ⟨b, off, none⟩) 3 cap) := KA_943.out.c 1 rfl
      have xA2 : u27.cell? ⟨u.heap.size, 2, none⟩ = some (.int .i64 T) := KA_943.out.c 2 rfl
      have zA : u.heap.size < u27.heap.size := KA_943.out.2.2
      have z2A : u.heap.size < u27.heap.size + 1 := by omega
      have xP0 : u27.cell? ⟨u.heap.size + 1, 0, none⟩ = some (.int .i64 2) := KP_944.out.c 0 rfl
      have xP1 : u27.cell? ⟨u.heap.size + 1, 1, none⟩ = some (.int .i64 7) := KP_944.out.c 1 rfl
      have xP2 : u27.cell? ⟨u.heap.size + 1, 2, none⟩ = some (.int .i64 1) := KP_944.out.c 2 rfl
      have xP3 : u27.cell? ⟨u.heap.size + 1, 3, none⟩ = some (.int .i64 99) := KP_944.out.c 3 rfl
      have zP : u.heap.size + 1 < u27.heap.size := KP_944.out.2.2
      have z2P : u.heap.size + 1 < u27.heap.size + 1 := by omega
      go_wp2_with fail
      refine (check_any (-1) 5 T 2 7 1 99 1 _ xL _ (HS4.out.step HB949.out)).mono ?_
      rintro e u28 ⟨rfl, b28⟩
      clear xA0 xA1 xA2 zA z2A xP0 xP1 xP2 xP3 zP z2P
      have KA_950 := Lib.hid (KA_943.out.step b28)
      clear KA_943
      have KP_951 := Lib.hid (KP_944.out.step b28)
      clear KP_944
      have KQ_952 := Lib.hid (KQ_945.out.step b28)
      clear KQ_945
      have KR_953 := Lib.hid (KR_946.out.step b28)
      clear KR_946
      have KS_954 := Lib.hid (KS_947.out.step b28)
      clear KS_947
      have KG_955 := Lib.hid (KG_948.out.step b28)
      clear KG_948
      have HB956 := Lib.hid (keep2 b28 HB949.out)
      clear HB949 b28
      rw [show ckV (-1) 5 T xL 2 7 1 99 1 = 1 from HK7.out]
      have xA0 : u28.cell? ⟨u.heap.size, 0, none⟩ = some (.int .i64 5) := KA_950.out.c 0 rfl
      have xA1 : u28.cell? ⟨u.heap.size, 1, none⟩ = some (.slice (some ⟨b, off, none⟩) 3 cap) := KA_950.out.c 1 rfl
      have xA2 : u28.cell? ⟨u.heap.size, 2, none⟩ = some (.int .i64 T) := KA_950.out.c 2 rfl
      have zA : u.heap.size < u28.heap.size := KA_950.out.2.2
      have z2A : u.heap.size < u28.heap.size + 1 := by omega
      have xP0 : u28.cell? ⟨u.heap.size + 1, 0, none⟩ = some (.int .i64 2) := KP_951.out.c 0 rfl
      have xP1 : u28.cell? ⟨u.heap.size + 1, 1, none⟩ = some (.int .i64 7) := KP_951.out.c 1 rfl
      have xP2 : u28.cell? ⟨u.heap.size + 1, 2, none⟩ = some (.int .i64 1) := KP_951.out.c 2 rfl
      have xP3 : u28.cell? ⟨u.heap.size + 1, 3, none⟩ = some (.int .i64 99) := KP_951.out.c 3 rfl
      have zP : u.heap.size + 1 < u28.heap.size := KP_951.out.2.2
      have z2P : u.heap.size + 1 < u28.heap.size + 1 := by omega
      go_wp2_with fail
      refine (permits_any 5 T 2 7 1 99 (-1) _ xL _ (HS4.out.step HB956.out)).mono ?_
      rintro e u29 ⟨rfl, b29⟩
      clear xA0 xA1 xA2 zA z2A xP0 xP1 xP2 xP3 zP z2P
      have KA_957 := Lib.hid (KA_950.out.step b29)
      clear KA_950
      have KP_958 := Lib.hid (KP_951.out.step b29)
      clear KP_951
      have KQ_959 := Lib.hid (KQ_952.out.step b29)
      clear KQ_952
      have KR_960 := Lib.hid (KR_953.out.step b29)
      clear KR_953
      have KS_961 := Lib.hid (KS_954.out.step b29)
      clear KS_954
      have KG_962 := Lib.hid (KG_955.out.step b29)
      clear KG_955
      have HB963 := Lib.hid (keep2 b29 HB956.out)
      clear HB956 b29
      rw [show pmE 5 T xL 2 7 1 99 (-1) = 1 from HK8.out]
      go_wp2
      go_ret
      exact ⟨rfl, keep2 HB963.out HB10.out⟩
end Go.Proofs.Ytdifgdnndmikaaa
