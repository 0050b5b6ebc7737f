/- Guests: the set of some tags; is a number in a list? -/
import Derived.Test.YtoaleijfpocdjaaTa
namespace Go.Proofs.Ytoaleijfpocdjaa
open Go.RowKit

theorem add_zero {m : List Int} {x : Int} (h : mgE m [x] = 0) : (stB m = true ∧ tgB x = true) ∧ mgL m [x] = mg m [x] ∧ stB (mg m [x]) = true := by
  have h1 : stB m = true := by
    cases hm : stB m
    · unfold mgE at h; simp [hm] at h
    · rfl
  have h2 : tgB x = true := by
    cases hx : tgB x
    · unfold mgE at h; simp [st_one, hx] at h
    · rfl
  have hl : (mg m [x]).length ≤ 400 := by
    apply Classical.byContradiction; intro hn
    unfold mgE at h; simp [st_one, h2, h1, hn] at h
  exact ⟨⟨h1, h2⟩, by unfold mgL; rw [h]; rfl, mg_st h1 (by rw [st_one]; exact h2) hl⟩
set_option maxRecDepth 100000 in
set_option maxHeartbeats 1000000 in
theorem in_any (v : Value) (l : List Int) (n : Int) (w : World) (h : IntsAt w v l) : Calls Try.prog 10 #[v, .int .i64 n] w fun e w' => e = .returned (.bool (inB l n)) ∧ w = w' := by
  obtain ⟨a, cap, rfl, hm, hc⟩ := h
  unfold maxLen at hm
  have HC := Lib.hid hc
  clear hc
  go_enter Try.func10, Try.ntmps10
  go_wp2_with fail
  go_loop [5] (fun i => ∃ k : Nat, k ≤ l.length ∧ i = .int .i64 k ∧ Hid (∀ j, j < k → l.getD j 0 ≠ n)) (fun i => l.length - (intOf i).toNat)
  case atStart => exact ⟨0, by omega, rfl, Lib.hid fun j h => absurd h (by omega)⟩
  case round =>
    obtain ⟨k, hk, rfl, HN⟩ := hrel
    by_cases hlt : k < l.length
    · obtain ⟨b, off, rfl, hcs⟩ := HC.out (by intro h; rw [h] at hlt; simp at hlt)
      have hx := hcs k _ (getD_of hlt)
      clear hcs
      by_cases hxn : l.getD k 0 = n
      · have HF := Lib.hid (show inB l n = true by rw [inB_iff, ← hxn]; simp [hlt])
        generalize l.getD k 0 = x at *
        subst hxn
        go_wp2
        go_ret
        exact ⟨ret_bool HF.out.symm, rfl⟩
      · have HN2 := Lib.hid (show ∀ j, j < k + 1 → l.getD j 0 ≠ n from fun j h => by
          by_cases e : j = k
          · subst e; exact hxn
          · exact HN.out j (by omega))
        clear HN
        generalize l.getD k 0 = x at *
        have e1 : (x == n) = false := by simp [hxn]
        have e2 : decide (x = n) = false := by simp [hxn]
        go_wp2
        go_round
        case rel => exact ⟨k + 1, by omega, by go_num, HN2⟩
        case measure => simp [intOf]; omega
    · have HF := Lib.hid (show inB l n = false by
        rw [← Bool.not_eq_true, inB_iff]
        intro hmem
        obtain ⟨j, hj, hje⟩ := List.mem_iff_getElem.1 hmem
        exact HN.out j (by omega) (by simp [hj, hje]))
      go_wp2
      go_ret
      exact ⟨ret_bool HF.out.symm, rfl⟩
/-- A region that makes memory and stores, and takes one result more before or behind the store. -/
def NW (lit : (Nat → Value) → Act) (W : World) (G : Nat → Value → World → Prop) (z : Value) (Fin : Value → World → Prop) (bf : Nat → Bool) (ac : Act) (wv : World) : Prop :=
  ∃ vs, ac = lit vs ∧ (bf 10 = true → (∀ i, i < 10 → i ≠ 8 → bf i = true) ∧ (∃ vr, vs 6 = .tuple #[vr, z]) ∧ (bf 8 = true → vs 8 = z) ∧ (bf 11 = true → vs 11 = z) ∧ Fin (vs 9) wv) ∧ (bf 10 = false → Below W.heap.size W wv ∧ ∀ i, bf i = true → G i (vs i) wv)
theorem NW.next {lit : (Nat → Value) → Act} {W : World} {G : Nat → Value → World → Prop} {z : Value} {Fin : Value → World → Prop} {bf : Nat → Bool} {wv : World} {vs : Nat → Value} (i : Nat) (hi : i ≠ 10) {x : Value} {w' : World} {ac' : Act} (hac : ac' = lit (upv vs i x)) (h8 : bf 10 = false)
    (k : ∀ i, bf i = true → G i (vs i) wv) (hb : Below W.heap.size W w') (hs : ∀ k v, G k v wv → G k v w') (hx : G i x w') : NW lit W G z Fin (up bf i) ac' w' := by
  refine ⟨upv vs i x, hac, fun h => ?_, fun _ => ⟨hb, fun j hu => ?_⟩⟩
  · rw [up_ne _ _ _ (Ne.symm hi), h8] at h; cases h
  · by_cases e : j = i
    · subst e; rw [upv_same]; exact hx
    · rw [up_ne _ _ _ e] at hu; rw [upv_ne _ _ _ _ e]; exact hs _ _ (k j hu)
theorem NW.late {lit : (Nat → Value) → Act} {W : World} {G : Nat → Value → World → Prop} {z : Value} {Fin : Value → World → Prop} {bf : Nat → Bool} {wv : World} {vs : Nat → Value} (q : Nat) (hq : q = 8 ∨ q = 11) {ac' : Act} (hac : ac' = lit (upv vs q z)) (h8 : bf 10 = true)
    (k : (∀ i, i < 10 → i ≠ 8 → bf i = true) ∧ (∃ vr, vs 6 = .tuple #[vr, z]) ∧ (bf 8 = true → vs 8 = z) ∧ (bf 11 = true → vs 11 = z) ∧ Fin (vs 9) wv) : NW lit W G z Fin (up bf q) ac' wv := by
  obtain ⟨k1, k2, k3, k4, k5⟩ := k
  refine ⟨upv vs q z, hac, fun _ => ⟨fun j hj h => ?_, ?_, fun h => ?_, fun h => ?_, ?_⟩, fun h => ?_⟩
  · unfold up; rw [k1 j hj h]; simp
  · rw [upv_ne _ _ _ _ (by omega)]; exact k2
  · by_cases e : 8 = q
    · subst e; exact upv_same _ _ _
    · rw [up_ne _ _ _ e] at h; rw [upv_ne _ _ _ _ e]; exact k3 h
  · by_cases e : 11 = q
    · subst e; exact upv_same _ _ _
    · rw [up_ne _ _ _ e] at h; rw [upv_ne _ _ _ _ e]; exact k4 h
  · rw [upv_ne _ _ _ _ (by omega)]; exact k5
  · rw [up_ne _ _ _ (by omega), h8] at h; cases h
theorem NW.last {lit : (Nat → Value) → Act} {W : World} {G : Nat → Value → World → Prop} {z : Value} {Fin : Value → World → Prop} {bf : Nat → Bool} {w' : World} {vs : Nat → Value} {ac' : Act} (hac : ac' = lit vs) (ha : ∀ i, i < 10 → i ≠ 8 → bf i = true) (h6 : ∃ vr, vs 6 = .tuple #[vr, z]) (h8 : bf 8 = true → vs 8 = z) (h11 : bf 11 = true → vs 11 = z) (hF : Fin (vs 9) w') : NW lit W G z Fin (up bf 10) ac' w' := by
  refine ⟨vs, hac, fun _ => ⟨fun i hi h => (by rw [up_ne _ _ _ (by omega)]; exact ha i hi h), h6, fun h => h8 (by rw [up_ne _ _ _ (by omega)] at h; exact h), fun h => h11 (by rw [up_ne _ _ _ (by omega)] at h; exact h), hF⟩, fun h => ?_⟩
  rw [up_same] at h; cases h
theorem all10x {bf : Nat → Bool} (h0 : bf 0 = true) (h1 : bf 1 = true) (h2 : bf 2 = true) (h3 : bf 3 = true) (h4 : bf 4 = true) (h5 : bf 5 = true) (h6 : bf 6 = true) (h7 : bf 7 = true) (h9 : bf 9 = true) : ∀ i, i < 10 → i ≠ 8 → bf i = true := fun i hi hn => by
  rcases i with _ | _ | _ | _ | _ | _ | _ | _ | _ | _ | i
  · exact h0
  · exact h1
  · exact h2
  · exact h3
  · exact h4
  · exact h5
  · exact h6
  · exact h7
  · omega
  · exact h9
  · omega
theorem add_no {m : List Int} {y : Int} (hs : stB m = true) (hl : m.length ≤ 50) (h : mgE m [y] ≠ 0) : ¬ (0 ≤ y ∧ y ≤ 2147483646) := fun hy =>
  h (mg_fit hs (show stB [y] = true by rw [st_one]; exact inr_iff.2 hy) (by simp; omega)).1
set_option maxRecDepth 100000 in
set_option maxHeartbeats 4000000 in
theorem revoked_any (v : Value) (l : List Int) (w : World) (h : TgAt w v l) (hl : l.length ≤ 20) : Calls Try.prog 6 #[v] w fun e w' => ∃ b u L, e = .returned (.tuple #[.agg #[u], .bool b]) ∧ (TgAt w' u L ∧ (b = true → So L l) ∧ ((∀ z ∈ l, 0 ≤ z ∧ z ≤ 2147483646) → b = true)) ∧ Below w.heap.size w w' := by
  have H := Lib.hid h
  obtain ⟨⟨a, cap, rfl, hm, -⟩, -⟩ := h
  unfold maxLen at hm
  have KR := Lib.hid ((Cs.new w w.heap.size #[.slice none 0 0] 34 rfl).alloc (.cells #[.slice none 0 0] 34))
  have KX := Lib.hid (Cs.new (w.alloc (.cells #[.slice none 0 0] 34)) (w.heap.size + 1) #[.slice none 0 0] 34 (by simp))
  have HB0 := Lib.hid (al2 (w := w) (o1 := .cells #[.slice none 0 0] 34) (o2 := .cells #[.slice none 0 0] 34))
  go_enter Try.func6, Try.ntmps6
  go_wp2_with fail
  obtain ⟨W0, hW0⟩ : ∃ W, (w.alloc (.cells #[.slice none 0 0] 34)).alloc (.cells #[.slice none 0 0] 34) = W := ⟨_, rfl⟩
  have hsz0 : W0.heap.size = w.heap.size + 2 := by rw [← hW0]; simp
  rw [hW0] at KR KX HB0 ⊢
  clear hW0
  go_loopw [5] (fun i wr => ∃ (k : Nat) (xa : Option Addr) (xc : Nat) (L : List Int), k ≤ l.length ∧ i = .int .i64 k ∧ Hid (So L (l.take k)) ∧ Hid (Cs wr w.heap.size #[.slice none 0 0]) ∧ Hid (Cs wr (w.heap.size + 1) #[.slice xa L.length xc]) ∧ Hid (wr.ownsRow (w.heap.size + 2) 3 1 (.slice xa L.length xc) L.length (L.map (Value.int .i64))) ∧ Hid (Below w.heap.size w wr) ∧ w.heap.size + 2 ≤ wr.heap.size) (fun i _ => l.length - (intOf i).toNat)
  case atStart => exact ⟨0, none, 0, [], by omega, rfl, ⟨by decide, by simp, fun z => Iff.rfl⟩, KR.out, KX.out, World.ownsRow_nil _ _ _ _, HB0.out, by omega⟩
  case round =>
    clear KR KX HB0 hsz0
    obtain ⟨k, xa, xc, L, hk, rfl, HS, KR, KX, HRW, HBr, hr2⟩ := hrel
    have hLl := HS.out.2.1
    rw [List.length_take] at hLl
    have hL20 : L.length ≤ 20 := by omega
    clear hLl
    by_cases hlt : k < l.length
    · obtain ⟨⟨a2, cap2, hva, -, hcs⟩, -⟩ := H.out
      obtain ⟨rfl, rfl⟩ : a = a2 ∧ cap = cap2 := by simpa using hva
      obtain ⟨b, off, rfl, hcs2⟩ := hcs (by intro h; rw [h] at hlt; simp at hlt)
      have Hy := Lib.hid (hcs2 k _ (getD_of hlt))
      have HTK := Lib.hid (show l.take (k + 1) = l.take k ++ [l.getD k 0] by rw [List.take_succ_eq_append_getElem hlt]; simp [hlt])
      have HMEM := Lib.hid (show l.getD k 0 ∈ l by simp [hlt])
      clear hcs hcs2 hva
      generalize l.getD k 0 = y at *
      obtain ⟨er, her⟩ : ∃ er, mgE L [y] = er := ⟨_, rfl⟩
      have HER := Lib.hid her
      clear her
      obtain ⟨LL, hLL⟩ : ∃ LL, mgL L [y] = LL := ⟨_, rfl⟩
      replace hLL := Lib.hid hLL
      have htk : (l.take k).length < 50 := by rw [List.length_take]; omega
      replace htk := Lib.hid htk
      go_wp2_with fail
      obtain ⟨lit, hlit⟩ : ∃ lit : (Nat → Value) → Act, lit = fun vs => { tmps := List.toArray (Value.slice (some { block := b, off := off }) l.length cap :: undef :: Value.pointer (some { block := w.heap.size, off := 0 }) :: u3 :: Value.pointer (some { block := w.heap.size + 1, off := 0 }) :: Value.int IntKind.i64 (k : Int) :: vs 9 :: vs 11 :: Value.agg #[Value.slice none 0 0] :: Value.int IntKind.i64 (k : Int) :: Value.slice (some { block := b, off := off }) l.length cap :: Value.int IntKind.i64 (l.length : Int) :: Value.bool true :: u13 :: u14 :: vs 6 :: vs 0 :: vs 1 :: vs 2 :: vs 3 :: vs 4 :: vs 5 :: vs 7 :: vs 8 :: u24 :: u25 :: u26 :: u27 :: undef :: []), defers := [] } := ⟨_, rfl⟩
      have HLIT := Lib.hid hlit
      clear hlit
      obtain ⟨val, hval⟩ : ∃ val : List Value, val = [.agg #[.slice xa L.length xc], .slice (some ⟨b, off, none⟩) l.length cap, .int .i64 (k : Int), .pointer (some ⟨b, off + k, none⟩), .int .i64 y, undef, undef, undef, .int .i64 er, undef, undef, .int .i64 er] := ⟨_, rfl⟩
      have E0 := Lib.hid (show val.getD 0 undef = .agg #[.slice xa L.length xc] by rw [hval]; rfl)
      have E1 := Lib.hid (show val.getD 1 undef = .slice (some ⟨b, off, none⟩) l.length cap by rw [hval]; rfl)
      have E2 := Lib.hid (show val.getD 2 undef = .int .i64 (k : Int) by rw [hval]; rfl)
      have E3 := Lib.hid (show val.getD 3 undef = .pointer (some ⟨b, off + k, none⟩) by rw [hval]; rfl)
      have E4 := Lib.hid (show val.getD 4 undef = .int .i64 y by rw [hval]; rfl)
      have E8 := Lib.hid (show val.getD 8 undef = .int .i64 er by rw [hval]; rfl)
      have E11 := Lib.hid (show val.getD 11 undef = .int .i64 er by rw [hval]; rfl)
      clear hval
      obtain ⟨G, hG0⟩ : ∃ G : Nat → Value → World → Prop, G = (fun i v ww => (i = 5 → ∃ ua uc, v = .tuple #[.agg #[.slice ua LL.length uc], .int .i64 er] ∧ ww.ownsRow (w.heap.size + 2) 3 1 (.slice ua LL.length uc) LL.length (LL.map (Value.int .i64))) ∧ (i = 6 → ∃ ua uc, v = .tuple #[.agg #[.slice ua LL.length uc], .int .i64 er] ∧ ww.ownsRow (w.heap.size + 2) 3 1 (.slice ua LL.length uc) LL.length (LL.map (Value.int .i64))) ∧ (i = 7 → ∃ ua uc, v = .agg #[.slice ua LL.length uc] ∧ ww.ownsRow (w.heap.size + 2) 3 1 (.slice ua LL.length uc) LL.length (LL.map (Value.int .i64))) ∧ (i = 9 → ∃ g, v = .pointer (some ⟨g, 0, none⟩) ∧ wr.heap.size ≤ g ∧ BoxN ww g #[.slice none 0 0] 34) ∧ (i ≠ 5 → i ≠ 6 → i ≠ 7 → i ≠ 9 → v = val.getD i undef)) := ⟨_, rfl⟩
      have HG := Lib.hid hG0
      clear hG0
      refine region_inv (NW lit wr G (.int .i64 er) (fun v9 wv => ∃ g ua uc, v9 = .pointer (some ⟨g, 0, none⟩) ∧ wr.heap.size ≤ g ∧ Cs wv g #[.slice ua LL.length uc] ∧ wv.ownsRow (w.heap.size + 2) 3 1 (.slice ua LL.length uc) LL.length (LL.map (Value.int .i64)) ∧ Below wr.heap.size wr wv)) (by kernel_rfl) (by decide +kernel) ?_ ?_ ?_
      · exact ⟨fun i => ([u16, u17, u18, u19, u20, u21, u15, u22, u23, u6, undef, u7] : List Value).getD i undef, (by rw [HLIT.out]; rfl), fun h => (by cases h), fun _ => ⟨below_drew _ _, fun i h => by cases h⟩⟩
      · refine ⟨?_, ?_, ?_, ?_, ?_, ?_, ?_, ?_, ?_, ?_, ?_, ?_, trivial⟩
        · intro bf ac wv hfb haf hJ K' hK
          obtain ⟨vs, rfl, j8, jn⟩ := hJ
          replace hK := Lib.hid hK
          have h8 : bf 10 = false := Bool.eq_false_iff.2 fun h => absurd (((j8 h).1 0 (by omega) (by omega)).symm.trans hfb) (by simp)
          obtain ⟨hM, j4⟩ := jn h8
          replace hM := Lib.hid hM
          rw [HG.out] at j4
          replace j4 := Lib.hid j4
          clear haf hfb jn j8
          have K1 := KX.out.step hM.out
          have x0 := K1.c 0 rfl
          have xz := K1.2.2
          clear K1
          rw [HLIT.out]
          go_simp
          exact hK.out _ _ (NW.next (wv := wv) (vs := vs) 0 (by omega) (x := .agg #[.slice xa L.length xc]) (by rw [HLIT.out]; rfl) h8 (by rw [HG.out]; exact j4.out) hM.out (by rw [HG.out]; exact fun _ _ h => h) (by rw [HG.out]; exact ⟨fun h => absurd h (by decide), fun h => absurd h (by decide), fun h => absurd h (by decide), fun h => absurd h (by decide), fun _ _ _ _ => E0.out.symm⟩))
        · intro bf ac wv hfb haf hJ K' hK
          obtain ⟨vs, rfl, j8, jn⟩ := hJ
          replace hK := Lib.hid hK
          have h8 : bf 10 = false := Bool.eq_false_iff.2 fun h => absurd (((j8 h).1 1 (by omega) (by omega)).symm.trans hfb) (by simp)
          obtain ⟨hM, j4⟩ := jn h8
          replace hM := Lib.hid hM
          rw [HG.out] at j4
          replace j4 := Lib.hid j4
          clear haf hfb jn j8
          rw [HLIT.out]
          go_simp
          exact hK.out _ _ (NW.next (wv := wv) (vs := vs) 1 (by omega) (x := .slice (some ⟨b, off, none⟩) l.length cap) (by rw [HLIT.out]; rfl) h8 (by rw [HG.out]; exact j4.out) hM.out (by rw [HG.out]; exact fun _ _ h => h) (by rw [HG.out]; exact ⟨fun h => absurd h (by decide), fun h => absurd h (by decide), fun h => absurd h (by decide), fun h => absurd h (by decide), fun _ _ _ _ => E1.out.symm⟩))
        · intro bf ac wv hfb haf hJ K' hK
          obtain ⟨vs, rfl, j8, jn⟩ := hJ
          replace hK := Lib.hid hK
          have h8 : bf 10 = false := Bool.eq_false_iff.2 fun h => absurd (((j8 h).1 2 (by omega) (by omega)).symm.trans hfb) (by simp)
          obtain ⟨hM, j4⟩ := jn h8
          replace hM := Lib.hid hM
          rw [HG.out] at j4
          replace j4 := Lib.hid j4
          clear haf hfb jn j8
          rw [HLIT.out]
          go_simp
          exact hK.out _ _ (NW.next (wv := wv) (vs := vs) 2 (by omega) (x := .int .i64 (k : Int)) (by rw [HLIT.out]; rfl) h8 (by rw [HG.out]; exact j4.out) hM.out (by rw [HG.out]; exact fun _ _ h => h) (by rw [HG.out]; exact ⟨fun h => absurd h (by decide), fun h => absurd h (by decide), fun h => absurd h (by decide), fun h => absurd h (by decide), fun _ _ _ _ => E2.out.symm⟩))
        · intro bf ac wv hfb haf hJ K' hK
          obtain ⟨vs, rfl, j8, jn⟩ := hJ
          replace hK := Lib.hid hK
          have h8 : bf 10 = false := Bool.eq_false_iff.2 fun h => absurd (((j8 h).1 3 (by omega) (by omega)).symm.trans hfb) (by simp)
          obtain ⟨hM, j4⟩ := jn h8
          replace hM := Lib.hid hM
          rw [HG.out] at j4
          simp [Region.binds] at haf
          have e1 := ((j4 1 (by simp [haf])).2.2.2.2 (by decide) (by decide) (by decide) (by decide)).trans E1.out
          have e2 := ((j4 2 (by simp [haf])).2.2.2.2 (by decide) (by decide) (by decide) (by decide)).trans E2.out
          replace j4 := Lib.hid j4
          clear haf hfb jn j8
          rw [HLIT.out]
          go_simp
          exact hK.out _ _ (NW.next (wv := wv) (vs := vs) 3 (by omega) (x := .pointer (some ⟨b, off + k, none⟩)) (by rw [HLIT.out]; simp only [upv, e1, e2, Nat.reduceBEq, cond_true, cond_false]) h8 (by rw [HG.out]; exact j4.out) hM.out (by rw [HG.out]; exact fun _ _ h => h) (by rw [HG.out]; exact ⟨fun h => absurd h (by decide), fun h => absurd h (by decide), fun h => absurd h (by decide), fun h => absurd h (by decide), fun _ _ _ _ => E3.out.symm⟩))
        · intro bf ac wv hfb haf hJ K' hK
          obtain ⟨vs, rfl, j8, jn⟩ := hJ
          replace hK := Lib.hid hK
          have h8 : bf 10 = false := Bool.eq_false_iff.2 fun h => absurd (((j8 h).1 4 (by omega) (by omega)).symm.trans hfb) (by simp)
          obtain ⟨hM, j4⟩ := jn h8
          replace hM := Lib.hid hM
          rw [HG.out] at j4
          simp [Region.binds] at haf
          have e3 := ((j4 3 (by simp [haf])).2.2.2.2 (by decide) (by decide) (by decide) (by decide)).trans E3.out
          replace j4 := Lib.hid j4
          clear haf hfb jn j8
          have xg := keep1 (keep2 hM.out HBr.out) Hy.out
          have xgz := World.block_lt_of_cell? _ _ xg
          have xgz : b < wv.heap.size := xgz
          rw [HLIT.out]
          go_simp
          exact hK.out _ _ (NW.next (wv := wv) (vs := vs) 4 (by omega) (x := .int .i64 y) (by rw [HLIT.out]; simp only [upv, e3, Nat.reduceBEq, cond_true, cond_false]) h8 (by rw [HG.out]; exact j4.out) hM.out (by rw [HG.out]; exact fun _ _ h => h) (by rw [HG.out]; exact ⟨fun h => absurd h (by decide), fun h => absurd h (by decide), fun h => absurd h (by decide), fun h => absurd h (by decide), fun _ _ _ _ => E4.out.symm⟩))
        · intro bf ac wv hfb haf hJ K' hK
          obtain ⟨vs, rfl, j8, jn⟩ := hJ
          replace hK := Lib.hid hK
          have h8 : bf 10 = false := Bool.eq_false_iff.2 fun h => absurd (((j8 h).1 5 (by omega) (by omega)).symm.trans hfb) (by simp)
          obtain ⟨hM, j4⟩ := jn h8
          replace hM := Lib.hid hM
          rw [HG.out] at j4
          simp [Region.binds] at haf
          have e0 := ((j4 0 (by simp [haf])).2.2.2.2 (by decide) (by decide) (by decide) (by decide)).trans E0.out
          have e4 := ((j4 4 (by simp [haf])).2.2.2.2 (by decide) (by decide) (by decide) (by decide)).trans E4.out
          replace j4 := Lib.hid j4
          clear haf hfb jn j8
          rw [HLIT.out]
          go_simp
          go_at_call 17
          refine (add_any _ L y _ (tg_of_row (row_step HRW.out hM.out))).mono ?_
          rintro e w4 ⟨⟨u, rfl, hu⟩, b4⟩
          rw [hLL.out] at hu
          rw [HER.out]
          obtain ⟨ua, uc, rfl⟩ := row_slice hu
          exact hK.out _ _ (NW.next (wv := wv) (vs := vs) 5 (by omega) (x := .tuple #[.agg #[.slice ua LL.length uc], .int .i64 er]) (by rw [HLIT.out]; simp only [upv, e0, e4, Nat.reduceBEq, cond_true, cond_false]) h8 (by rw [HG.out]; exact j4.out) (keep2 b4 hM.out) (by rw [HG.out]; exact fun k v h => ⟨fun z => (by
            obtain ⟨ua, uc, z1, z2⟩ := h.1 z
            exact ⟨ua, uc, z1, row_step z2 b4⟩), fun z => (by
            obtain ⟨ua, uc, z1, z2⟩ := h.2.1 z
            exact ⟨ua, uc, z1, row_step z2 b4⟩), fun z => (by
            obtain ⟨ua, uc, z1, z2⟩ := h.2.2.1 z
            exact ⟨ua, uc, z1, row_step z2 b4⟩), fun z => (by
            obtain ⟨g, z1, z2, z3⟩ := h.2.2.2.1 z
            exact ⟨g, z1, z2, z3.step b4⟩), h.2.2.2.2⟩) (by rw [HG.out]; exact ⟨fun _ => ⟨ua, uc, rfl, row_base hu (by have := hM.out.size; omega)⟩, fun h => absurd h (by decide), fun h => absurd h (by decide), fun h => absurd h (by decide), fun h5 => absurd rfl h5⟩))
        · intro bf ac wv hfb haf hJ K' hK
          obtain ⟨vs, rfl, j8, jn⟩ := hJ
          replace hK := Lib.hid hK
          have h8 : bf 10 = false := Bool.eq_false_iff.2 fun h => absurd (((j8 h).1 6 (by omega) (by omega)).symm.trans hfb) (by simp)
          obtain ⟨hM, j4⟩ := jn h8
          replace hM := Lib.hid hM
          rw [HG.out] at j4
          simp [Region.binds] at haf
          have e5 := (j4 5 (by simp [haf])).1 rfl
          replace j4 := Lib.hid j4
          clear haf hfb jn j8
          obtain ⟨ua, uc, z1, z2⟩ := e5
          rw [HLIT.out]
          go_simp
          exact hK.out _ _ (NW.next (wv := wv) (vs := vs) 6 (by omega) (x := .tuple #[.agg #[.slice ua LL.length uc], .int .i64 er]) (by rw [HLIT.out]; simp only [upv, z1, Nat.reduceBEq, cond_true, cond_false]) h8 (by rw [HG.out]; exact j4.out) hM.out (by rw [HG.out]; exact fun _ _ h => h) (by rw [HG.out]; exact ⟨fun h => absurd h (by decide), fun _ => ⟨ua, uc, rfl, z2⟩, fun h => absurd h (by decide), fun h => absurd h (by decide), fun h5 => fun h6 => absurd rfl h6⟩))
        · intro bf ac wv hfb haf hJ K' hK
          obtain ⟨vs, rfl, j8, jn⟩ := hJ
          replace hK := Lib.hid hK
          have h8 : bf 10 = false := Bool.eq_false_iff.2 fun h => absurd (((j8 h).1 7 (by omega) (by omega)).symm.trans hfb) (by simp)
          obtain ⟨hM, j4⟩ := jn h8
          replace hM := Lib.hid hM
          rw [HG.out] at j4
          simp [Region.binds] at haf
          have e6 := (j4 6 (by simp [haf])).2.1 rfl
          replace j4 := Lib.hid j4
          clear haf hfb jn j8
          obtain ⟨ua, uc, z1, z2⟩ := e6
          rw [HLIT.out]
          go_simp
          exact hK.out _ _ (NW.next (wv := wv) (vs := vs) 7 (by omega) (x := .agg #[.slice ua LL.length uc]) (by rw [HLIT.out]; simp only [upv, z1, Nat.reduceBEq, cond_true, cond_false]) h8 (by rw [HG.out]; exact j4.out) hM.out (by rw [HG.out]; exact fun _ _ h => h) (by rw [HG.out]; exact ⟨fun h => absurd h (by decide), fun h => absurd h (by decide), fun _ => ⟨ua, uc, rfl, z2⟩, fun h => absurd h (by decide), fun h5 => fun h6 => fun h7 => absurd rfl h7⟩))
        · intro bf ac wv hfb haf hJ K' hK
          obtain ⟨vs, rfl, j8, jn⟩ := hJ
          replace hK := Lib.hid hK
          by_cases h8t : bf 10 = true
          · have j9 := j8 h8t
            obtain ⟨vr, e6⟩ := j9.2.1
            clear haf hfb jn j8
            replace j9 := Lib.hid j9
            rw [HLIT.out]
            go_simp
            exact hK.out _ _ (NW.late (vs := vs) 8 (by omega) (by rw [HLIT.out]; simp only [upv, e6, Nat.reduceBEq, cond_true, cond_false]) h8t j9.out)
          have h8 : bf 10 = false := Bool.eq_false_iff.2 h8t
          obtain ⟨hM, j4⟩ := jn h8
          replace hM := Lib.hid hM
          rw [HG.out] at j4
          simp [Region.binds] at haf
          have e6 := (j4 6 (by simp [haf])).2.1 rfl
          replace j4 := Lib.hid j4
          clear haf hfb jn j8
          obtain ⟨ua, uc, z1, z2⟩ := e6
          rw [HLIT.out]
          go_simp
          exact hK.out _ _ (NW.next (wv := wv) (vs := vs) 8 (by omega) (x := .int .i64 er) (by rw [HLIT.out]; simp only [upv, z1, Nat.reduceBEq, cond_true, cond_false]) h8 (by rw [HG.out]; exact j4.out) hM.out (by rw [HG.out]; exact fun _ _ h => h) (by rw [HG.out]; exact ⟨fun h => absurd h (by decide), fun h => absurd h (by decide), fun h => absurd h (by decide), fun h => absurd h (by decide), fun _ _ _ _ => E8.out.symm⟩))
        · intro bf ac wv hfb haf hJ K' hK
          obtain ⟨vs, rfl, j8, jn⟩ := hJ
          replace hK := Lib.hid hK
          have h8 : bf 10 = false := Bool.eq_false_iff.2 fun h => absurd (((j8 h).1 9 (by omega) (by omega)).symm.trans hfb) (by simp)
          obtain ⟨hM, j4⟩ := jn h8
          replace hM := Lib.hid hM
          rw [HG.out] at j4
          replace j4 := Lib.hid j4
          clear haf hfb jn j8
          rw [HLIT.out]
          go_simp
          have b4 := al wv (.cells #[.slice none 0 0] 34)
          exact hK.out _ _ (NW.next (wv := wv) (vs := vs) 9 (by omega) (x := .pointer (some ⟨wv.heap.size, 0, none⟩)) (by rw [HLIT.out]; rfl) h8 (by rw [HG.out]; exact j4.out) (keep2 b4 hM.out) (by rw [HG.out]; exact fun k v h => ⟨fun z => (by
            obtain ⟨ua, uc, z1, z2⟩ := h.1 z
            exact ⟨ua, uc, z1, row_step z2 b4⟩), fun z => (by
            obtain ⟨ua, uc, z1, z2⟩ := h.2.1 z
            exact ⟨ua, uc, z1, row_step z2 b4⟩), fun z => (by
            obtain ⟨ua, uc, z1, z2⟩ := h.2.2.1 z
            exact ⟨ua, uc, z1, row_step z2 b4⟩), fun z => (by
            obtain ⟨g, z1, z2, z3⟩ := h.2.2.2.1 z
            exact ⟨g, z1, z2, z3.step b4⟩), h.2.2.2.2⟩) (by rw [HG.out]; exact ⟨fun h => absurd h (by decide), fun h => absurd h (by decide), fun h => absurd h (by decide), fun _ => ⟨_, rfl, hM.out.size, BoxN.new _ _ _⟩, fun h5 => fun h6 => fun h7 => fun h9 => absurd rfl h9⟩))
        · intro bf ac wv hfb haf hJ K' hK
          obtain ⟨vs, rfl, j8, jn⟩ := hJ
          replace hK := Lib.hid hK
          obtain ⟨hM, j4⟩ := jn hfb
          replace hM := Lib.hid hM
          rw [HG.out] at j4
          simp [Region.binds] at haf
          have HA := Lib.hid (all10x (bf := bf) (by simp [haf]) (by simp [haf]) (by simp [haf]) (by simp [haf]) (by simp [haf]) (by simp [haf]) (by simp [haf]) (by simp [haf]) (by simp [haf]))
          have H11 := Lib.hid (show bf 11 = true → vs 11 = .int .i64 er from fun h => ((j4 11 h).2.2.2.2 (by decide) (by decide) (by decide) (by decide)).trans E11.out)
          have H8 := Lib.hid (show bf 8 = true → vs 8 = .int .i64 er from fun h => ((j4 8 h).2.2.2.2 (by decide) (by decide) (by decide) (by decide)).trans E8.out)
          have H6 := Lib.hid (show ∃ vr, vs 6 = .tuple #[vr, .int .i64 er] from by
            obtain ⟨ua, uc, z1, -⟩ := (j4 6 (by simp [haf])).2.1 rfl
            exact ⟨_, z1⟩)
          have e7 := (j4 7 (by simp [haf])).2.2.1 rfl
          have e9 := (j4 9 (by simp [haf])).2.2.2.1 rfl
          clear haf hfb jn j8 j4
          obtain ⟨ua, uc, z1, z2⟩ := e7
          obtain ⟨g, z3, z4, z5⟩ := e9
          have Z2 := Lib.hid z2
          have Z5 := Lib.hid z5
          have s0 := z5.cs.c 0 rfl
          have s1 := z5.cs.f 0 (by simp)
          have s2 := z5.lt
          clear z2 z5
          replace z4 := Lib.hid z4
          rw [HLIT.out]
          go_simp
          exact hK.out _ _ (NW.last (vs := vs) (by rw [HLIT.out]; simp only [z1, z3]) HA.out H6.out H8.out H11.out ⟨g, ua, uc, z3, z4.out, Z5.out.cs.set 0 (by simp) _ rfl, row_set Z2.out (row_type Z2.out Z5.out (by decide)), hM.out.setCell z4.out _⟩)
        · intro bf ac wv hfb haf hJ K' hK
          obtain ⟨vs, rfl, j8, jn⟩ := hJ
          replace hK := Lib.hid hK
          by_cases h8t : bf 10 = true
          · have j9 := j8 h8t
            simp [Region.binds] at haf
            have e8 := j9.2.2.1 (by simp [haf])
            clear haf hfb jn j8
            replace j9 := Lib.hid j9
            rw [HLIT.out]
            go_simp
            exact hK.out _ _ (NW.late (vs := vs) 11 (by omega) (by rw [HLIT.out]; simp only [upv, e8, Nat.reduceBEq, cond_true, cond_false]) h8t j9.out)
          have h8 : bf 10 = false := Bool.eq_false_iff.2 h8t
          obtain ⟨hM, j4⟩ := jn h8
          replace hM := Lib.hid hM
          rw [HG.out] at j4
          simp [Region.binds] at haf
          have e8 := ((j4 8 (by simp [haf])).2.2.2.2 (by decide) (by decide) (by decide) (by decide)).trans E8.out
          replace j4 := Lib.hid j4
          clear haf hfb jn j8
          rw [HLIT.out]
          go_simp
          exact hK.out _ _ (NW.next (wv := wv) (vs := vs) 11 (by omega) (x := .int .i64 er) (by rw [HLIT.out]; simp only [upv, e8, Nat.reduceBEq, cond_true, cond_false]) h8 (by rw [HG.out]; exact j4.out) hM.out (by rw [HG.out]; exact fun _ _ h => h) (by rw [HG.out]; exact ⟨fun h => absurd h (by decide), fun h => absurd h (by decide), fun h => absurd h (by decide), fun h => absurd h (by decide), fun _ _ _ _ => E11.out.symm⟩))
      · intro bf ac wv hall hJ
        obtain ⟨vs, rfl, j8, -⟩ := hJ
        obtain ⟨-, -, -, h11, hF⟩ := j8 (hall 10 (by decide))
        have e11 := h11 (hall 11 (by decide))
        clear hall j8 h11
        obtain ⟨g, ua, uc, e9, hg, hc, hr, hb⟩ := hF
        rw [HLIT.out]
        dsimp only
        rw [e9, e11]
        clear e9 e11
        have HC := Lib.hid hc
        have HRN := Lib.hid hr
        have KR2 := Lib.hid (KR.out.step hb)
        have KX2 := Lib.hid (KX.out.step hb)
        have HRW2 := Lib.hid (row_step HRW.out hb)
        have HB2 := Lib.hid (keep2 hb HBr.out)
        have hz2 := hb.size
        clear hc hr hb KR KX HRW HBr
        have p0 := HC.out.c 0 rfl
        have p1 := HC.out.2.2
        have q0 := KX2.out.c 0 rfl
        have q1 := KX2.out.f 0 (by simp)
        have q2 := KX2.out.2.2
        have r0 := KR2.out.c 0 rfl
        have r1 := KR2.out.f 0 (by simp)
        have r2 := KR2.out.2.2
        by_cases h0 : er = 0
        · subst h0
          obtain ⟨⟨-, hty⟩, z1, -⟩ := add_zero HER.out
          have hy := inr_iff.1 hty
          obtain ⟨-, z2, z3⟩ := HS.out.add hy htk.out
          rw [← HTK.out, ← z2, hLL.out] at z3
          have HS3 := Lib.hid z3
          clear z1 z2 z3 hty hy
          go_wp2
          go_roundw
          case rel => exact ⟨k + 1, ua, uc, LL, hlt, by go_num, HS3, KR2.out.other (by omega) _ _, KX2.out.set 0 (by simp) _ rfl, row_other HRN.out (by omega), HB2.out.setCell (by show w.heap.size ≤ w.heap.size + 1; omega) _, by simp; omega⟩
          case measure => simp [intOf]; omega
        · have n1 : (er != 0) = true := by simpa using h0
          have n2 : (er == 0) = false := by simpa using h0
          have n3 : decide (er = 0) = false := by simpa using h0
          have HNO := Lib.hid (show ¬ (∀ z ∈ l, 0 ≤ z ∧ z ≤ 2147483646) from fun hh => add_no HS.out.1 (by omega) (by rw [HER.out]; exact h0) (hh y HMEM.out))
          clear h0
          go_wp2
          have Q := KR2.out.set 0 (by simp) (.slice xa L.length xc) rfl
          have s0 := Q.c 0 rfl
          exact bodyPost_ret (v := .tuple #[.agg #[.slice xa L.length xc], .bool false]) (by simp [results, Try.results6, go_sem, s0]) rfl ⟨_, _, L, rfl, ⟨tg_of_row (row_other HRW2.out (by omega)), fun h => (by cases h), fun h => absurd h HNO.out⟩, HB2.out.setCell (by simp) _⟩
    · have hkl : k = l.length := by omega
      have HS3 := Lib.hid (show So L l by have := HS.out; rwa [hkl, List.take_length] at this)
      have q0 := KX.out.c 0 rfl
      have q2 := KX.out.2.2
      have r0 := KR.out.c 0 rfl
      have r1 := KR.out.f 0 (by simp)
      have r2 := KR.out.2.2
      go_wp2
      have Q := KR.out.set 0 (by simp) (.slice xa L.length xc) rfl
      have s0 := Q.c 0 rfl
      exact bodyPost_ret (v := .tuple #[.agg #[.slice xa L.length xc], .bool true]) (by simp [results, Try.results6, go_sem, s0]) rfl ⟨_, _, L, rfl, ⟨tg_of_row (row_other HRW.out (by omega)), fun _ => HS3.out, fun _ => rfl⟩, HBr.out.setCell (by simp) _⟩
end Go.Proofs.Ytoaleijfpocdjaa
