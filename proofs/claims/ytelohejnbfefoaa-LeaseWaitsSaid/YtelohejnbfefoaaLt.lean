/- Law LeaseWaits: the walk. -/
import Derived.Test.YtelohejnbfefoaaLz
import Derived.Test.YtelohejnbfefoaaIv
namespace Go.Proofs.Ytelohejnbfefoaa
open Go.RowKit

/-- After all voters' times a majority suffices. -/
theorem waits_pure {n K : Nat} {L : List Vo} {G : List Go1} {now c d hub ln : Int} {A : List Bool} {V : List Vo} {h f u er : Int} (I : Inv n K L G now) (h2 : 2 ≤ n) (h3 : n ≤ 3) (hK : K ≤ 60) (hA : A.length = n) (c1 : now ≤ c) (c2 : ∀ j, j < n → (L.getD j zV).u ≤ c) (c3 : c ≤ now + 65536)
    (d1 : 0 ≤ d) (d2 : d ≤ 65535) (hh : 0 ≤ hub ∧ hub < n) (l1 : 1 ≤ ln) (l2 : ln ≤ 65536) (hE : EW L A hub (c + d) ln V h f u er) : (er = 0 ∧ n < 2 * trN A n) ∨ (er = 22 ∧ ¬ n < 2 * trN A n) := by
  have hlen := I.len
  have htm : tmB (c + d) = true := inr_iff.2 ⟨by have := I.tim; omega, by have := I.tim; omega⟩
  have harg : argB L.length A.length hub (c + d) ln = true := by
    unfold argB
    rw [htm, hA, hlen, inr_iff.2 ⟨show (2 : Int) ≤ n by omega, show (n : Int) ≤ 3 by omega⟩, inr_iff.2 ⟨hh.1, show hub ≤ (n : Int) - 1 by omega⟩, inr_iff.2 ⟨l1, by omega⟩]
    simp
  have hY : ∀ j, j < (yesN L A L.length).length → 0 ≤ ((yesN L A L.length).getD j zV).f ∧ ((yesN L A L.length).getD j zV).f ≤ K := fun j hj => by
    obtain ⟨i, hi, -, e⟩ := yes_mem _ _ (getD_mem hj)
    rw [← e]
    have := I.vo i (by omega)
    omega
  have hpw : ∀ (h f u : Int), PW L A hub (c + d) ln h f u 0 → n < 2 * trN A n ∧ n < 2 * agreed L A h f u (c + d) := by
    intro h f u hp
    cases hp with
    | ok _ q1 q2 q3 q4 =>
      have hpos : 0 < (yesN L A L.length).length := by omega
      have g1 := gN_low (yesN L A L.length) 0 (hY 0 hpos).1 (yesN L A L.length).length
      have g2 := gN_le (yesN L A L.length) K (hY 0 hpos).2 (yesN L A L.length).length (fun j hj => (hY j hj).2)
      have hF : f = gN (yesN L A L.length) (yesN L A L.length).length + 1 := by
        rw [← q4]; exact IntWalk.i64_in _ (by omega)
      rw [yesN_trN, hlen] at q2
      refine ⟨q2, ?_⟩
      rw [agreed_sN, hlen, sN_cn]
      rw [trN_cn] at q2
      have hm := cn_mono (p := fun j => A.getD j false) (q := fun j => A.getD j false && agV hub f (c + d + ln) (c + d) (L.getD j zV)) n (fun j hj hAj => by
        rw [Bool.and_eq_true]
        refine ⟨hAj, ?_⟩
        obtain ⟨i, hi, e⟩ := mem_getD (mem_yes (L := L) L.length j (by omega) hAj)
        have h5 := gN_ge (yesN L A L.length) (yesN L A L.length).length i hi
        rw [e] at h5
        have h6 := c2 j hj
        have h7 := I.tim
        unfold agV agB lsB
        rw [inr_iff.2 ⟨hh.1, show hub ≤ 2 by omega⟩, inr_iff.2 ⟨show (1 : Int) ≤ f by omega, by omega⟩, inr_iff.2 ⟨show c + d + 1 ≤ c + d + ln by omega, by omega⟩]
        simp only [Bool.true_and, Bool.and_eq_true, Bool.or_eq_true, decide_eq_true_iff]
        exact ⟨by omega, .inl (by omega)⟩)
      omega
  cases hE with
  | no h0 f0 u0 _ hp he =>
    cases hp with
    | arg q => rw [harg] at q; cases q
    | few q1 q2 => rw [yesN_trN, hlen] at q2; exact .inr ⟨rfl, q2⟩
    | lim q1 q2 q3 =>
      have hpos : 0 < (yesN L A L.length).length := by omega
      have g2 := gN_le (yesN L A L.length) K (hY 0 hpos).2 (yesN L A L.length).length (fun j hj => (hY j hj).2)
      omega
    | ok _ => exact absurd rfl he
  | few h1 f1 u1 hp hq =>
    have := (hpw _ _ _ hp).2
    rw [hlen] at hq
    exact absurd this hq
  | ok h1 f1 u1 hp hq => exact .inl ⟨rfl, (hpw _ _ _ hp).1⟩
section
open Go.WideShapes Go.ChangeShapes Go.Joins Go.Deep
variable {H : Type} {enc : TypeId × Value → H} {w : World} {base : Nat} {sp : Nat → Bool} {held : Bool} {r : Reach} {b0 : Nat} {v : Value} {d : DataW H} {p : List MemPlace}
theorem arg_tr (hv : Value.okWide Try.prog w r b0 52 v) (h : DataW.Trod enc Try.prog w base sp held 52 v d p) : ∃ x : Tr, v = .agg #[.int .u8 x.hub, .int .u8 x.ans, .int .u16 x.aft, .int .u16 x.len] ∧ x.ok := by
  obtain ⟨cs, rfl, hsz⟩ := okWide_struct Try.underlying52 hv
  obtain ⟨k, h⟩ := h
  obtain ⟨x, e, ho⟩ := open_tr h
  refine ⟨x, ?_, ho⟩
  congr 1
  exact Array.toList_inj.1 e
end
set_option maxRecDepth 100000 in
set_option maxHeartbeats 4000000 in
theorem waits_out (t : Bool) (v : Value) (T : List Tr) (x : Tr) (w : World) (hl : TrsAt w v T) (h60 : 60 < T.length) : Calls Try.prog 8 #[.bool t, v, .agg #[.int .u8 x.hub, .int .u8 x.ans, .int .u16 x.aft, .int .u16 x.len]] w fun e w' => e = .returned (.bool true) ∧ Below w.heap.size w w' := by
  obtain ⟨a, cap, rfl, hm, -⟩ := hl
  unfold maxLen at hm
  go_enter Try.func8, Try.ntmps8
  go_wp2_with fail
  refine (head_any _).mono ?_
  rintro e w1 ⟨rfl, b1⟩
  have B1 := Lib.hid b1
  clear b1
  go_wp2
  go_ret
  exact ⟨rfl, keep2 B1.out (al _ _)⟩
abbrev chainW : List (Nat × Nat) := [(17, 16), (18, 17), (22, 18)]
set_option maxRecDepth 100000 in
set_option maxHeartbeats 16000000 in
theorem waits_2 (v : Value) (T : List Tr) (x : Tr) (w : World) (hl : TrsAt w v T) (hx : ∀ x ∈ T, x.ok) (hxo : x.ok) (h60 : T.length ≤ 60) : Calls Try.prog 8 #[.bool false, v, .agg #[.int .u8 x.hub, .int .u8 x.ans, .int .u16 x.aft, .int .u16 x.len]] w fun e w' => e = .returned (.bool true) ∧ Below w.heap.size w w' := by
  have HL := Lib.hid hl
  have HX := Lib.hid hx
  clear hx
  obtain ⟨a, cap, rfl, -, -⟩ := hl
  obtain ⟨⟨p1, p2⟩, ⟨p3, p4⟩, ⟨p5, p6⟩, ⟨p7, p8⟩⟩ := hxo
  have HT0 := Lib.hid (Cs.new w w.heap.size #[.int .u8 x.hub, .int .u8 x.ans, .int .u16 x.aft, .int .u16 x.len] 52 rfl)
  have HB0 := Lib.hid (al w (.cells #[.int .u8 x.hub, .int .u8 x.ans, .int .u16 x.aft, .int .u16 x.len] 52))
  go_enter Try.func8, Try.ntmps8
  go_wp2_with fail
  refine (head_any _).mono ?_
  rintro e w1 ⟨rfl, b1⟩
  have B1 := Lib.hid (keep2 b1 HB0.out)
  have HT1 := Lib.hid (HT0.out.step b1)
  clear b1 HB0 HT0
  go_wp2_with fail
  refine (play2 _ T w1 (HL.out.step B1.out) HX.out h60).mono ?_
  rintro e w2 ⟨lv, gv, L, G, now, rfl, hL, hG, hI, hGn, b2⟩
  have HB2 := Lib.hid (keep2 b2 B1.out)
  have HT2 := Lib.hid (HT1.out.step b2)
  have HI := Lib.hid hI
  have HLv := Lib.hid hL
  have hlen := hI.len
  have htim := hI.tim
  obtain ⟨la, lc, rfl⟩ := vos_slice hL
  rw [hlen] at HLv ⊢
  have HLEN := Lib.hid hlen
  obtain ⟨t1, t2⟩ : 0 ≤ now ∧ now ≤ 3932100 := by omega
  clear hL hI b2 hGn hG HT1 B1 hlen htim
  go_wp2_with fail
  go_loop [11, 13] (fun cv i => ∃ (k : Nat) (c : Int), k ≤ 2 ∧ i = .int .i64 k ∧ cv = .int .i64 c ∧ now ≤ c ∧ c ≤ now + 65536 ∧ Hid (∀ j, j < k → (L.getD j zV).u ≤ c)) (fun _ i => 2 - (intOf i).toNat)
  case atStart => exact ⟨0, now, by omega, rfl, rfl, by omega, by omega, fun j hj => absurd hj (by omega)⟩
  case round =>
    obtain ⟨k, c, hk, rfl, rfl, c1, c2, HC⟩ := hrel
    by_cases hlt : k < 2
    · obtain ⟨a2, cap2, hva, -, hcs⟩ := HLv.out
      obtain ⟨b, off, rfl, hcs2⟩ := hcs (by intro h; have := HLEN.out; rw [h] at this; simp at this)
      obtain ⟨rfl, -, rfl⟩ : la = some ⟨b, off, none⟩ ∧ 2 = L.length ∧ lc = cap2 := by simpa using hva
      obtain ⟨-, -, x2⟩ := hcs2 k _ (vo_get (by rw [HLEN.out]; exact hlt))
      have hu := (HI.out.vo k hlt).2.2
      clear hva hcs hcs2
      obtain ⟨y, hy⟩ : ∃ y, (L.getD k zV).u = y := ⟨_, rfl⟩
      rw [hy] at x2 hu
      have HY := Lib.hid hy
      clear hy
      by_cases hcy : c < y
      · have HC2 := Lib.hid (show ∀ j, j < k + 1 → (L.getD j zV).u ≤ y from fun j hj => by
          by_cases e : j = k
          · subst e; rw [HY.out]; omega
          · have := HC.out j (by omega); omega)
        go_wp2
        go_round
        case rel => exact ⟨k + 1, y, by omega, by go_num, rfl, by omega, by omega, HC2⟩
        case measure => simp [intOf]; omega
      · have HC2 := Lib.hid (show ∀ j, j < k + 1 → (L.getD j zV).u ≤ c from fun j hj => by
          by_cases e : j = k
          · subst e; rw [HY.out]; omega
          · exact HC.out j (by omega))
        go_wp2
        go_round
        case rel => exact ⟨k + 1, c, by omega, by go_num, rfl, c1, c2, HC2⟩
        case measure => simp [intOf]; omega
    · obtain rfl : k = 2 := by omega
      have x1 := HT2.out.c 1 rfl
      have xz := HT2.out.2.2
      go_wp2_with fail
      refine (answers_any x.ans 2 _ p3 p4 (by omega)).mono ?_
      rintro e w3 ⟨va, A, rfl, hA, hAn, b3⟩
      have HT3 := Lib.hid (HT2.out.step b3)
      have HB3 := Lib.hid (keep2 b3 HB2.out)
      have HL3 := Lib.hid (HLv.out.step b3)
      have HA3 := Lib.hid hA
      have HAN := Lib.hid hAn
      obtain ⟨aa, ac2, rfl, -, -⟩ := hA
      clear b3 x1 xz HT2 HB2
      rw [hAn]
      rw [hAn] at HA3
      clear hAn
      go_wp2_with fail
      go_loop [15, 16] (fun y i => ∃ k : Nat, k ≤ 2 ∧ i = .int .i64 k ∧ y = .int .i64 (trN A k)) (fun _ i => 2 - (intOf i).toNat)
      case atStart => exact ⟨0, by omega, rfl, rfl⟩
      case round =>
        obtain ⟨k, hk, rfl, rfl⟩ := hrel
        by_cases hlt : k < 2
        · obtain ⟨a3, cap3, hvb, -, hct⟩ := HA3.out
          obtain ⟨rfl, -, rfl⟩ : aa = a3 ∧ 2 = A.length ∧ ac2 = cap3 := by simpa using hvb
          have hlta : k < A.length := by rw [HAN.out]; exact hlt
          obtain ⟨b5, off2, rfl, hct2⟩ := hct (by intro h; rw [h] at hlta; simp at hlta)
          have y0 := hct2 k _ (bo_get hlta)
          have HT := Lib.hid (trN_le A k)
          have HT2 := HT.out
          clear hct hvb hct2 hlta
          cases hA : A.getD k false
          · have HE := Lib.hid (trN_no hA)
            rw [hA] at y0
            clear hA
            go_wp2
            go_round
            case rel => exact ⟨k + 1, by omega, by go_num, by rw [HE.out]⟩
            case measure => simp [intOf]; omega
          · have HE := Lib.hid (trN_yes hA)
            rw [hA] at y0
            clear hA
            go_wp2
            go_round
            case rel => exact ⟨k + 1, by omega, by go_num, by rw [HE.out]; go_num⟩
            case measure => simp [intOf]; omega
        · obtain rfl : k = 2 := by omega
          have HTR := trN_le A 2
          obtain ⟨V, h, f, u, er, hE⟩ := ew_total L A (x.hub % 2) (c + x.aft) (1 + x.len)
          have HP := waits_pure HI.out (by omega) (by omega) h60 HAN.out c1 HC.out c2 p5 p6 ⟨Int.emod_nonneg x.hub (by omega), Int.emod_lt_of_pos x.hub (by omega)⟩ (by omega) (by omega) hE
          have HE := Lib.hid hE
          have HPP := Lib.hid HP
          clear hE HP
          have e1 := Int.emod_nonneg x.hub (show (2 : Int) ≠ 0 by omega)
          have e2 := Int.emod_lt_of_pos x.hub (show (0 : Int) < 2 by omega)
          go_upto_region 21 with fail
          obtain ⟨wq, hwq⟩ : ∃ wq, w3 = wq := ⟨_, rfl⟩
          obtain ⟨bt, hbt⟩ : ∃ bt, w.heap.size = bt := ⟨_, rfl⟩
          have HTB : Hid (Cs wq bt #[.int .u8 x.hub, .int .u8 x.ans, .int .u16 x.aft, .int .u16 x.len]) := by rw [← hwq, ← hbt]; exact HT3
          have HBq : Hid (Below w.heap.size w wq) := by rw [← hwq]; exact HB3
          have HLq : Hid (VosAt wq (.slice la 2 lc) L) := by rw [← hwq]; exact HL3
          have HAq : Hid (BosAt wq (.slice aa 2 ac2) A) := by rw [← hwq]; exact HA3
          rw [hwq]
          clear hwq HT3 HB3 HL3 HA3
          rw [hbt, show ((2 : Nat) : Int) = 2 from rfl]
          obtain ⟨lit, hlit⟩ : ∃ lit : Value → Value → Value → Value → Value → Value → Value → Value → Value → Value → Value → Value → Value → Value → Value → Value → Value → Value → Value → Value → Value → Value → Value → Value → Act, lit = fun v70 v71 v72 v73 v74 v75 v76 v77 v78 v79 v80 v81 v82 v83 v84 v85 v86 v69 v87 v88 v89 v18 v17 v19 => { tmps := #[Value.bool false, Value.slice a T.length cap, Value.agg #[Value.int IntKind.u8 x.hub, Value.int IntKind.u8 x.ans, Value.int IntKind.u16 x.aft, Value.int IntKind.u16 x.len], undef, undef, Value.pointer (some { block := bt, off := 0 }), Value.bool false, Value.bool true, Value.int IntKind.i64 2, Value.slice la 2 lc, gv, Value.int IntKind.i64 c, Value.bool true, Value.int IntKind.i64 2, Value.slice aa 2 ac2, Value.int IntKind.i64 ((trN A 2 : Nat) : Int), Value.int IntKind.i64 2, v17, v18, v19, Value.bool true, Value.slice a T.length cap, Value.int IntKind.i64 (T.length : Int), Value.bool (decide ((60 : Int) < (T.length : Int))), undef, Value.bool false, Value.tuple #[Value.slice la 2 lc, gv, Value.int IntKind.i64 now, Value.bool true], Value.int IntKind.i64 2, Value.slice a T.length cap, Value.tuple #[Value.slice la 2 lc, gv, Value.int IntKind.i64 now, Value.bool true], Value.slice la 2 lc, gv, Value.int IntKind.i64 now, Value.bool true, Value.bool true, Value.bool false, Value.bool false, Value.slice la 2 lc, Value.int IntKind.i64 2, Value.int IntKind.i64 2, Value.bool false, Value.bool false, Value.int IntKind.i64 2, Value.int IntKind.i64 2, Value.bool false, u45, u46, u47, u48, u49, u50, u51, u52, u53, Value.pointer (some { block := bt, off := 1 }), Value.int IntKind.u8 x.ans, Value.int IntKind.i64 2, Value.slice aa 2 ac2, Value.int IntKind.i64 2, Value.int IntKind.i64 2, Value.bool false, u61, u62, u63, u64, u65, u66, u67, u68, v69, v70, v71, v72, v73, v74, v75, v76, v77, v78, v79, v80, v81, v82, v83, v84, v85, v86, v87, v88, v89, undef, undef, undef, undef, undef, undef, undef, undef, undef, undef], defers := [] } := ⟨_, rfl⟩
          have HLIT := Lib.hid hlit
          clear hlit
          refine region_inv (fun bf ac wv => ∃ (m : Nat) (r : Value) (v70 v71 v72 v73 v74 v75 v76 v77 v78 v79 v80 v81 v82 v83 v84 v85 v86 v69 v87 v88 v89 v18 v17 v19 : Value), ac = lit v70 v71 v72 v73 v74 v75 v76 v77 v78 v79 v80 v81 v82 v83 v84 v85 v86 v69 v87 v88 v89 v18 v17 v19 ∧ Rg wq wv m v18 (bf 21) (bf 23) #[.int .i64 h, .int .i64 f, .int .i64 u] ∧ Imp chainW bf ∧ (bf 0 = true → v70 = .slice la 2 lc) ∧ (bf 1 = true → v71 = .slice aa 2 ac2) ∧ (bf 2 = true → v72 = .pointer (some ⟨bt, 0, none⟩)) ∧ (bf 3 = true → v73 = .int .u8 x.hub) ∧ (bf 4 = true → v74 = .int .i64 x.hub) ∧ (bf 5 = true → v75 = .int .i64 2) ∧ (bf 6 = true → v76 = .int .i64 (x.hub % 2)) ∧ (bf 7 = true → v77 = .int .i64 c) ∧ (bf 8 = true → v78 = .pointer (some ⟨bt, 2, none⟩)) ∧ (bf 9 = true → v79 = .int .u16 x.aft) ∧ (bf 10 = true → v80 = .int .i64 x.aft) ∧ (bf 11 = true → v81 = .int .i64 (c + x.aft)) ∧ (bf 12 = true → v82 = .pointer (some ⟨bt, 3, none⟩)) ∧ (bf 13 = true → v83 = .int .u16 x.len) ∧ (bf 14 = true → v84 = .int .i64 x.len) ∧ (bf 15 = true → v85 = .int .i64 (1 + x.len)) ∧ (bf 16 = true → v86 = .tuple #[r, .agg #[.int .i64 h, .int .i64 f, .int .i64 u], .int .i64 er]) ∧ (bf 17 = true → v69 = .tuple #[r, .agg #[.int .i64 h, .int .i64 f, .int .i64 u], .int .i64 er]) ∧ (bf 18 = true → v87 = r) ∧ (bf 19 = true → v88 = .agg #[.int .i64 h, .int .i64 f, .int .i64 u]) ∧ (bf 20 = true → v89 = .int .i64 er) ∧ (bf 22 = true → v17 = r) ∧ (bf 24 = true → v19 = .int .i64 er)) (by kernel_rfl) (by decide +kernel) ?_ ?_ ?_
          · exact ⟨_, .bool false, undef, undef, undef, undef, undef, undef, undef, undef, undef, undef, undef, undef, undef, undef, undef, undef, undef, undef, undef, undef, undef, undef, undef, undef, (by rw [HLIT.out]), Rg.start _ _ _, Imp.start _, (by simp), (by simp), (by simp), (by simp), (by simp), (by simp), (by simp), (by simp), (by simp), (by simp), (by simp), (by simp), (by simp), (by simp), (by simp), (by simp), (by simp), (by simp), (by simp), (by simp), (by simp), (by simp), (by simp)⟩
          · refine ⟨?_, ?_, ?_, ?_, ?_, ?_, ?_, ?_, ?_, ?_, ?_, ?_, ?_, ?_, ?_, ?_, ?_, ?_, ?_, ?_, ?_, ?_, ?_, ?_, ?_, trivial⟩
            · intro bf ac wv hfb haf hJ K' hK
              obtain ⟨m, hJ⟩ := hJ
              obtain ⟨r, hJ⟩ := hJ
              obtain ⟨v70, hJ⟩ := hJ
              obtain ⟨v71, hJ⟩ := hJ
              obtain ⟨v72, hJ⟩ := hJ
              obtain ⟨v73, hJ⟩ := hJ
              obtain ⟨v74, hJ⟩ := hJ
              obtain ⟨v75, hJ⟩ := hJ
              obtain ⟨v76, hJ⟩ := hJ
              obtain ⟨v77, hJ⟩ := hJ
              obtain ⟨v78, hJ⟩ := hJ
              obtain ⟨v79, hJ⟩ := hJ
              obtain ⟨v80, hJ⟩ := hJ
              obtain ⟨v81, hJ⟩ := hJ
              obtain ⟨v82, hJ⟩ := hJ
              obtain ⟨v83, hJ⟩ := hJ
              obtain ⟨v84, hJ⟩ := hJ
              obtain ⟨v85, hJ⟩ := hJ
              obtain ⟨v86, hJ⟩ := hJ
              obtain ⟨v69, hJ⟩ := hJ
              obtain ⟨v87, hJ⟩ := hJ
              obtain ⟨v88, hJ⟩ := hJ
              obtain ⟨v89, hJ⟩ := hJ
              obtain ⟨v18, hJ⟩ := hJ
              obtain ⟨v17, hJ⟩ := hJ
              obtain ⟨v19, hJ⟩ := hJ
              obtain ⟨rfl, hJ⟩ := hJ
              obtain ⟨hM, hJ⟩ := hJ
              obtain ⟨hI, hJ⟩ := hJ
              obtain ⟨g0, hJ⟩ := hJ
              obtain ⟨g1, hJ⟩ := hJ
              obtain ⟨g2, hJ⟩ := hJ
              obtain ⟨g3, hJ⟩ := hJ
              obtain ⟨g4, hJ⟩ := hJ
              obtain ⟨g5, hJ⟩ := hJ
              obtain ⟨g6, hJ⟩ := hJ
              obtain ⟨g7, hJ⟩ := hJ
              obtain ⟨g8, hJ⟩ := hJ
              obtain ⟨g9, hJ⟩ := hJ
              obtain ⟨g10, hJ⟩ := hJ
              obtain ⟨g11, hJ⟩ := hJ
              obtain ⟨g12, hJ⟩ := hJ
              obtain ⟨g13, hJ⟩ := hJ
              obtain ⟨g14, hJ⟩ := hJ
              obtain ⟨g15, hJ⟩ := hJ
              obtain ⟨g16, hJ⟩ := hJ
              obtain ⟨g17, hJ⟩ := hJ
              obtain ⟨g18, hJ⟩ := hJ
              obtain ⟨g19, hJ⟩ := hJ
              obtain ⟨g20, hJ⟩ := hJ
              obtain ⟨g22, hJ⟩ := hJ
              have g24 := hJ
              clear hJ
              replace hK := Lib.hid hK
              replace hM := Lib.hid hM
              replace hI := Lib.hid hI
              replace hfb := Lib.hid hfb
              replace g0 := Lib.hid g0
              replace g1 := Lib.hid g1
              replace g2 := Lib.hid g2
              replace g3 := Lib.hid g3
              replace g4 := Lib.hid g4
              replace g5 := Lib.hid g5
              replace g6 := Lib.hid g6
              replace g7 := Lib.hid g7
              replace g8 := Lib.hid g8
              replace g9 := Lib.hid g9
              replace g10 := Lib.hid g10
              replace g11 := Lib.hid g11
              replace g12 := Lib.hid g12
              replace g13 := Lib.hid g13
              replace g14 := Lib.hid g14
              replace g15 := Lib.hid g15
              replace g16 := Lib.hid g16
              replace g17 := Lib.hid g17
              replace g18 := Lib.hid g18
              replace g19 := Lib.hid g19
              replace g20 := Lib.hid g20
              replace g22 := Lib.hid g22
              replace g24 := Lib.hid g24
              clear haf
              rw [HLIT.out]
              go_simp
              exact hK.out _ _ ⟨m, r, .slice la 2 lc, v71, v72, v73, v74, v75, v76, v77, v78, v79, v80, v81, v82, v83, v84, v85, v86, v69, v87, v88, v89, v18, v17, v19, (by rw [HLIT.out]), hM.out, (imp_free 0 hI.out (by decide)), fun _ => rfl, g1.out, g2.out, g3.out, g4.out, g5.out, g6.out, g7.out, g8.out, g9.out, g10.out, g11.out, g12.out, g13.out, g14.out, g15.out, g16.out, g17.out, g18.out, g19.out, g20.out, g22.out, g24.out⟩
            · intro bf ac wv hfb haf hJ K' hK
              obtain ⟨m, hJ⟩ := hJ
              obtain ⟨r, hJ⟩ := hJ
              obtain ⟨v70, hJ⟩ := hJ
              obtain ⟨v71, hJ⟩ := hJ
              obtain ⟨v72, hJ⟩ := hJ
              obtain ⟨v73, hJ⟩ := hJ
              obtain ⟨v74, hJ⟩ := hJ
              obtain ⟨v75, hJ⟩ := hJ
              obtain ⟨v76, hJ⟩ := hJ
              obtain ⟨v77, hJ⟩ := hJ
              obtain ⟨v78, hJ⟩ := hJ
              obtain ⟨v79, hJ⟩ := hJ
              obtain ⟨v80, hJ⟩ := hJ
              obtain ⟨v81, hJ⟩ := hJ
              obtain ⟨v82, hJ⟩ := hJ
              obtain ⟨v83, hJ⟩ := hJ
              obtain ⟨v84, hJ⟩ := hJ
              obtain ⟨v85, hJ⟩ := hJ
              obtain ⟨v86, hJ⟩ := hJ
              obtain ⟨v69, hJ⟩ := hJ
              obtain ⟨v87, hJ⟩ := hJ
              obtain ⟨v88, hJ⟩ := hJ
              obtain ⟨v89, hJ⟩ := hJ
              obtain ⟨v18, hJ⟩ := hJ
              obtain ⟨v17, hJ⟩ := hJ
              obtain ⟨v19, hJ⟩ := hJ
              obtain ⟨rfl, hJ⟩ := hJ
              obtain ⟨hM, hJ⟩ := hJ
              obtain ⟨hI, hJ⟩ := hJ
              obtain ⟨g0, hJ⟩ := hJ
              obtain ⟨g1, hJ⟩ := hJ
              obtain ⟨g2, hJ⟩ := hJ
              obtain ⟨g3, hJ⟩ := hJ
              obtain ⟨g4, hJ⟩ := hJ
              obtain ⟨g5, hJ⟩ := hJ
              obtain ⟨g6, hJ⟩ := hJ
              obtain ⟨g7, hJ⟩ := hJ
              obtain ⟨g8, hJ⟩ := hJ
              obtain ⟨g9, hJ⟩ := hJ
              obtain ⟨g10, hJ⟩ := hJ
              obtain ⟨g11, hJ⟩ := hJ
              obtain ⟨g12, hJ⟩ := hJ
              obtain ⟨g13, hJ⟩ := hJ
              obtain ⟨g14, hJ⟩ := hJ
              obtain ⟨g15, hJ⟩ := hJ
              obtain ⟨g16, hJ⟩ := hJ
              obtain ⟨g17, hJ⟩ := hJ
              obtain ⟨g18, hJ⟩ := hJ
              obtain ⟨g19, hJ⟩ := hJ
              obtain ⟨g20, hJ⟩ := hJ
              obtain ⟨g22, hJ⟩ := hJ
              have g24 := hJ
              clear hJ
              replace hK := Lib.hid hK
              replace hM := Lib.hid hM
              replace hI := Lib.hid hI
              replace hfb := Lib.hid hfb
              replace g0 := Lib.hid g0
              replace g1 := Lib.hid g1
              replace g2 := Lib.hid g2
              replace g3 := Lib.hid g3
              replace g4 := Lib.hid g4
              replace g5 := Lib.hid g5
              replace g6 := Lib.hid g6
              replace g7 := Lib.hid g7
              replace g8 := Lib.hid g8
              replace g9 := Lib.hid g9
              replace g10 := Lib.hid g10
              replace g11 := Lib.hid g11
              replace g12 := Lib.hid g12
              replace g13 := Lib.hid g13
              replace g14 := Lib.hid g14
              replace g15 := Lib.hid g15
              replace g16 := Lib.hid g16
              replace g17 := Lib.hid g17
              replace g18 := Lib.hid g18
              replace g19 := Lib.hid g19
              replace g20 := Lib.hid g20
              replace g22 := Lib.hid g22
              replace g24 := Lib.hid g24
              clear haf
              rw [HLIT.out]
              go_simp
              exact hK.out _ _ ⟨m, r, v70, .slice aa 2 ac2, v72, v73, v74, v75, v76, v77, v78, v79, v80, v81, v82, v83, v84, v85, v86, v69, v87, v88, v89, v18, v17, v19, (by rw [HLIT.out]), hM.out, (imp_free 1 hI.out (by decide)), g0.out, fun _ => rfl, g2.out, g3.out, g4.out, g5.out, g6.out, g7.out, g8.out, g9.out, g10.out, g11.out, g12.out, g13.out, g14.out, g15.out, g16.out, g17.out, g18.out, g19.out, g20.out, g22.out, g24.out⟩
            · intro bf ac wv hfb haf hJ K' hK
              obtain ⟨m, hJ⟩ := hJ
              obtain ⟨r, hJ⟩ := hJ
              obtain ⟨v70, hJ⟩ := hJ
              obtain ⟨v71, hJ⟩ := hJ
              obtain ⟨v72, hJ⟩ := hJ
              obtain ⟨v73, hJ⟩ := hJ
              obtain ⟨v74, hJ⟩ := hJ
              obtain ⟨v75, hJ⟩ := hJ
              obtain ⟨v76, hJ⟩ := hJ
              obtain ⟨v77, hJ⟩ := hJ
              obtain ⟨v78, hJ⟩ := hJ
              obtain ⟨v79, hJ⟩ := hJ
              obtain ⟨v80, hJ⟩ := hJ
              obtain ⟨v81, hJ⟩ := hJ
              obtain ⟨v82, hJ⟩ := hJ
              obtain ⟨v83, hJ⟩ := hJ
              obtain ⟨v84, hJ⟩ := hJ
              obtain ⟨v85, hJ⟩ := hJ
              obtain ⟨v86, hJ⟩ := hJ
              obtain ⟨v69, hJ⟩ := hJ
              obtain ⟨v87, hJ⟩ := hJ
              obtain ⟨v88, hJ⟩ := hJ
              obtain ⟨v89, hJ⟩ := hJ
              obtain ⟨v18, hJ⟩ := hJ
              obtain ⟨v17, hJ⟩ := hJ
              obtain ⟨v19, hJ⟩ := hJ
              obtain ⟨rfl, hJ⟩ := hJ
              obtain ⟨hM, hJ⟩ := hJ
              obtain ⟨hI, hJ⟩ := hJ
              obtain ⟨g0, hJ⟩ := hJ
              obtain ⟨g1, hJ⟩ := hJ
              obtain ⟨g2, hJ⟩ := hJ
              obtain ⟨g3, hJ⟩ := hJ
              obtain ⟨g4, hJ⟩ := hJ
              obtain ⟨g5, hJ⟩ := hJ
              obtain ⟨g6, hJ⟩ := hJ
              obtain ⟨g7, hJ⟩ := hJ
              obtain ⟨g8, hJ⟩ := hJ
              obtain ⟨g9, hJ⟩ := hJ
              obtain ⟨g10, hJ⟩ := hJ
              obtain ⟨g11, hJ⟩ := hJ
              obtain ⟨g12, hJ⟩ := hJ
              obtain ⟨g13, hJ⟩ := hJ
              obtain ⟨g14, hJ⟩ := hJ
              obtain ⟨g15, hJ⟩ := hJ
              obtain ⟨g16, hJ⟩ := hJ
              obtain ⟨g17, hJ⟩ := hJ
              obtain ⟨g18, hJ⟩ := hJ
              obtain ⟨g19, hJ⟩ := hJ
              obtain ⟨g20, hJ⟩ := hJ
              obtain ⟨g22, hJ⟩ := hJ
              have g24 := hJ
              clear hJ
              replace hK := Lib.hid hK
              replace hM := Lib.hid hM
              replace hI := Lib.hid hI
              replace hfb := Lib.hid hfb
              replace g0 := Lib.hid g0
              replace g1 := Lib.hid g1
              replace g2 := Lib.hid g2
              replace g3 := Lib.hid g3
              replace g4 := Lib.hid g4
              replace g5 := Lib.hid g5
              replace g6 := Lib.hid g6
              replace g7 := Lib.hid g7
              replace g8 := Lib.hid g8
              replace g9 := Lib.hid g9
              replace g10 := Lib.hid g10
              replace g11 := Lib.hid g11
              replace g12 := Lib.hid g12
              replace g13 := Lib.hid g13
              replace g14 := Lib.hid g14
              replace g15 := Lib.hid g15
              replace g16 := Lib.hid g16
              replace g17 := Lib.hid g17
              replace g18 := Lib.hid g18
              replace g19 := Lib.hid g19
              replace g20 := Lib.hid g20
              replace g22 := Lib.hid g22
              replace g24 := Lib.hid g24
              clear haf
              rw [HLIT.out]
              go_simp
              exact hK.out _ _ ⟨m, r, v70, v71, .pointer (some ⟨bt, 0, none⟩), v73, v74, v75, v76, v77, v78, v79, v80, v81, v82, v83, v84, v85, v86, v69, v87, v88, v89, v18, v17, v19, (by rw [HLIT.out]), hM.out, (imp_free 2 hI.out (by decide)), g0.out, g1.out, fun _ => rfl, g3.out, g4.out, g5.out, g6.out, g7.out, g8.out, g9.out, g10.out, g11.out, g12.out, g13.out, g14.out, g15.out, g16.out, g17.out, g18.out, g19.out, g20.out, g22.out, g24.out⟩
            · intro bf ac wv hfb haf hJ K' hK
              obtain ⟨m, hJ⟩ := hJ
              obtain ⟨r, hJ⟩ := hJ
              obtain ⟨v70, hJ⟩ := hJ
              obtain ⟨v71, hJ⟩ := hJ
              obtain ⟨v72, hJ⟩ := hJ
              obtain ⟨v73, hJ⟩ := hJ
              obtain ⟨v74, hJ⟩ := hJ
              obtain ⟨v75, hJ⟩ := hJ
              obtain ⟨v76, hJ⟩ := hJ
              obtain ⟨v77, hJ⟩ := hJ
              obtain ⟨v78, hJ⟩ := hJ
              obtain ⟨v79, hJ⟩ := hJ
              obtain ⟨v80, hJ⟩ := hJ
              obtain ⟨v81, hJ⟩ := hJ
              obtain ⟨v82, hJ⟩ := hJ
              obtain ⟨v83, hJ⟩ := hJ
              obtain ⟨v84, hJ⟩ := hJ
              obtain ⟨v85, hJ⟩ := hJ
              obtain ⟨v86, hJ⟩ := hJ
              obtain ⟨v69, hJ⟩ := hJ
              obtain ⟨v87, hJ⟩ := hJ
              obtain ⟨v88, hJ⟩ := hJ
              obtain ⟨v89, hJ⟩ := hJ
              obtain ⟨v18, hJ⟩ := hJ
              obtain ⟨v17, hJ⟩ := hJ
              obtain ⟨v19, hJ⟩ := hJ
              obtain ⟨rfl, hJ⟩ := hJ
              obtain ⟨hM, hJ⟩ := hJ
              obtain ⟨hI, hJ⟩ := hJ
              obtain ⟨g0, hJ⟩ := hJ
              obtain ⟨g1, hJ⟩ := hJ
              obtain ⟨g2, hJ⟩ := hJ
              obtain ⟨g3, hJ⟩ := hJ
              obtain ⟨g4, hJ⟩ := hJ
              obtain ⟨g5, hJ⟩ := hJ
              obtain ⟨g6, hJ⟩ := hJ
              obtain ⟨g7, hJ⟩ := hJ
              obtain ⟨g8, hJ⟩ := hJ
              obtain ⟨g9, hJ⟩ := hJ
              obtain ⟨g10, hJ⟩ := hJ
              obtain ⟨g11, hJ⟩ := hJ
              obtain ⟨g12, hJ⟩ := hJ
              obtain ⟨g13, hJ⟩ := hJ
              obtain ⟨g14, hJ⟩ := hJ
              obtain ⟨g15, hJ⟩ := hJ
              obtain ⟨g16, hJ⟩ := hJ
              obtain ⟨g17, hJ⟩ := hJ
              obtain ⟨g18, hJ⟩ := hJ
              obtain ⟨g19, hJ⟩ := hJ
              obtain ⟨g20, hJ⟩ := hJ
              obtain ⟨g22, hJ⟩ := hJ
              have g24 := hJ
              clear hJ
              replace hK := Lib.hid hK
              replace hM := Lib.hid hM
              replace hI := Lib.hid hI
              replace hfb := Lib.hid hfb
              replace g0 := Lib.hid g0
              replace g1 := Lib.hid g1
              replace g2 := Lib.hid g2
              replace g3 := Lib.hid g3
              replace g4 := Lib.hid g4
              replace g5 := Lib.hid g5
              replace g6 := Lib.hid g6
              replace g7 := Lib.hid g7
              replace g8 := Lib.hid g8
              replace g9 := Lib.hid g9
              replace g10 := Lib.hid g10
              replace g11 := Lib.hid g11
              replace g12 := Lib.hid g12
              replace g13 := Lib.hid g13
              replace g14 := Lib.hid g14
              replace g15 := Lib.hid g15
              replace g16 := Lib.hid g16
              replace g17 := Lib.hid g17
              replace g18 := Lib.hid g18
              replace g19 := Lib.hid g19
              replace g20 := Lib.hid g20
              replace g22 := Lib.hid g22
              replace g24 := Lib.hid g24
              simp [Region.binds] at haf
              have hb2 := Lib.hid (show bf 2 = true by simp [haf])
              clear haf
              obtain rfl := (g2.out hb2.out).symm
              rw [HLIT.out]
              have hA := HTB.out.step hM.out.below
              have xA := hA.c 0 rfl
              have zA := hA.2.2
              clear hA
              go_simp
              exact hK.out _ _ ⟨m, r, v70, v71, .pointer (some ⟨bt, 0, none⟩), .int .u8 x.hub, v74, v75, v76, v77, v78, v79, v80, v81, v82, v83, v84, v85, v86, v69, v87, v88, v89, v18, v17, v19, (by rw [HLIT.out]), hM.out, (imp_free 3 hI.out (by decide)), g0.out, g1.out, g2.out, fun _ => rfl, g4.out, g5.out, g6.out, g7.out, g8.out, g9.out, g10.out, g11.out, g12.out, g13.out, g14.out, g15.out, g16.out, g17.out, g18.out, g19.out, g20.out, g22.out, g24.out⟩
            · intro bf ac wv hfb haf hJ K' hK
              obtain ⟨m, hJ⟩ := hJ
              obtain ⟨r, hJ⟩ := hJ
              obtain ⟨v70, hJ⟩ := hJ
              obtain ⟨v71, hJ⟩ := hJ
              obtain ⟨v72, hJ⟩ := hJ
              obtain ⟨v73, hJ⟩ := hJ
              obtain ⟨v74, hJ⟩ := hJ
              obtain ⟨v75, hJ⟩ := hJ
              obtain ⟨v76, hJ⟩ := hJ
              obtain ⟨v77, hJ⟩ := hJ
              obtain ⟨v78, hJ⟩ := hJ
              obtain ⟨v79, hJ⟩ := hJ
              obtain ⟨v80, hJ⟩ := hJ
              obtain ⟨v81, hJ⟩ := hJ
              obtain ⟨v82, hJ⟩ := hJ
              obtain ⟨v83, hJ⟩ := hJ
              obtain ⟨v84, hJ⟩ := hJ
              obtain ⟨v85, hJ⟩ := hJ
              obtain ⟨v86, hJ⟩ := hJ
              obtain ⟨v69, hJ⟩ := hJ
              obtain ⟨v87, hJ⟩ := hJ
              obtain ⟨v88, hJ⟩ := hJ
              obtain ⟨v89, hJ⟩ := hJ
              obtain ⟨v18, hJ⟩ := hJ
              obtain ⟨v17, hJ⟩ := hJ
              obtain ⟨v19, hJ⟩ := hJ
              obtain ⟨rfl, hJ⟩ := hJ
              obtain ⟨hM, hJ⟩ := hJ
              obtain ⟨hI, hJ⟩ := hJ
              obtain ⟨g0, hJ⟩ := hJ
              obtain ⟨g1, hJ⟩ := hJ
              obtain ⟨g2, hJ⟩ := hJ
              obtain ⟨g3, hJ⟩ := hJ
              obtain ⟨g4, hJ⟩ := hJ
              obtain ⟨g5, hJ⟩ := hJ
              obtain ⟨g6, hJ⟩ := hJ
              obtain ⟨g7, hJ⟩ := hJ
              obtain ⟨g8, hJ⟩ := hJ
              obtain ⟨g9, hJ⟩ := hJ
              obtain ⟨g10, hJ⟩ := hJ
              obtain ⟨g11, hJ⟩ := hJ
              obtain ⟨g12, hJ⟩ := hJ
              obtain ⟨g13, hJ⟩ := hJ
              obtain ⟨g14, hJ⟩ := hJ
              obtain ⟨g15, hJ⟩ := hJ
              obtain ⟨g16, hJ⟩ := hJ
              obtain ⟨g17, hJ⟩ := hJ
              obtain ⟨g18, hJ⟩ := hJ
              obtain ⟨g19, hJ⟩ := hJ
              obtain ⟨g20, hJ⟩ := hJ
              obtain ⟨g22, hJ⟩ := hJ
              have g24 := hJ
              clear hJ
              replace hK := Lib.hid hK
              replace hM := Lib.hid hM
              replace hI := Lib.hid hI
              replace hfb := Lib.hid hfb
              replace g0 := Lib.hid g0
              replace g1 := Lib.hid g1
              replace g2 := Lib.hid g2
              replace g3 := Lib.hid g3
              replace g4 := Lib.hid g4
              replace g5 := Lib.hid g5
              replace g6 := Lib.hid g6
              replace g7 := Lib.hid g7
              replace g8 := Lib.hid g8
              replace g9 := Lib.hid g9
              replace g10 := Lib.hid g10
              replace g11 := Lib.hid g11
              replace g12 := Lib.hid g12
              replace g13 := Lib.hid g13
              replace g14 := Lib.hid g14
              replace g15 := Lib.hid g15
              replace g16 := Lib.hid g16
              replace g17 := Lib.hid g17
              replace g18 := Lib.hid g18
              replace g19 := Lib.hid g19
              replace g20 := Lib.hid g20
              replace g22 := Lib.hid g22
              replace g24 := Lib.hid g24
              simp [Region.binds] at haf
              have hb3 := Lib.hid (show bf 3 = true by simp [haf])
              clear haf
              obtain rfl := (g3.out hb3.out).symm
              rw [HLIT.out]
              have q1 : IntKind.i64.wrap x.hub = x.hub := IntWalk.i64_in _ (by omega)
              go_simp
              exact hK.out _ _ ⟨m, r, v70, v71, v72, .int .u8 x.hub, .int .i64 x.hub, v75, v76, v77, v78, v79, v80, v81, v82, v83, v84, v85, v86, v69, v87, v88, v89, v18, v17, v19, (by rw [HLIT.out]), hM.out, (imp_free 4 hI.out (by decide)), g0.out, g1.out, g2.out, g3.out, fun _ => rfl, g5.out, g6.out, g7.out, g8.out, g9.out, g10.out, g11.out, g12.out, g13.out, g14.out, g15.out, g16.out, g17.out, g18.out, g19.out, g20.out, g22.out, g24.out⟩
            · intro bf ac wv hfb haf hJ K' hK
              obtain ⟨m, hJ⟩ := hJ
              obtain ⟨r, hJ⟩ := hJ
              obtain ⟨v70, hJ⟩ := hJ
              obtain ⟨v71, hJ⟩ := hJ
              obtain ⟨v72, hJ⟩ := hJ
              obtain ⟨v73, hJ⟩ := hJ
              obtain ⟨v74, hJ⟩ := hJ
              obtain ⟨v75, hJ⟩ := hJ
              obtain ⟨v76, hJ⟩ := hJ
              obtain ⟨v77, hJ⟩ := hJ
              obtain ⟨v78, hJ⟩ := hJ
              obtain ⟨v79, hJ⟩ := hJ
              obtain ⟨v80, hJ⟩ := hJ
              obtain ⟨v81, hJ⟩ := hJ
              obtain ⟨v82, hJ⟩ := hJ
              obtain ⟨v83, hJ⟩ := hJ
              obtain ⟨v84, hJ⟩ := hJ
              obtain ⟨v85, hJ⟩ := hJ
              obtain ⟨v86, hJ⟩ := hJ
              obtain ⟨v69, hJ⟩ := hJ
              obtain ⟨v87, hJ⟩ := hJ
              obtain ⟨v88, hJ⟩ := hJ
              obtain ⟨v89, hJ⟩ := hJ
              obtain ⟨v18, hJ⟩ := hJ
              obtain ⟨v17, hJ⟩ := hJ
              obtain ⟨v19, hJ⟩ := hJ
              obtain ⟨rfl, hJ⟩ := hJ
              obtain ⟨hM, hJ⟩ := hJ
              obtain ⟨hI, hJ⟩ := hJ
              obtain ⟨g0, hJ⟩ := hJ
              obtain ⟨g1, hJ⟩ := hJ
              obtain ⟨g2, hJ⟩ := hJ
              obtain ⟨g3, hJ⟩ := hJ
              obtain ⟨g4, hJ⟩ := hJ
              obtain ⟨g5, hJ⟩ := hJ
              obtain ⟨g6, hJ⟩ := hJ
              obtain ⟨g7, hJ⟩ := hJ
              obtain ⟨g8, hJ⟩ := hJ
              obtain ⟨g9, hJ⟩ := hJ
              obtain ⟨g10, hJ⟩ := hJ
              obtain ⟨g11, hJ⟩ := hJ
              obtain ⟨g12, hJ⟩ := hJ
              obtain ⟨g13, hJ⟩ := hJ
              obtain ⟨g14, hJ⟩ := hJ
              obtain ⟨g15, hJ⟩ := hJ
              obtain ⟨g16, hJ⟩ := hJ
              obtain ⟨g17, hJ⟩ := hJ
              obtain ⟨g18, hJ⟩ := hJ
              obtain ⟨g19, hJ⟩ := hJ
              obtain ⟨g20, hJ⟩ := hJ
              obtain ⟨g22, hJ⟩ := hJ
              have g24 := hJ
              clear hJ
              replace hK := Lib.hid hK
              replace hM := Lib.hid hM
              replace hI := Lib.hid hI
              replace hfb := Lib.hid hfb
              replace g0 := Lib.hid g0
              replace g1 := Lib.hid g1
              replace g2 := Lib.hid g2
              replace g3 := Lib.hid g3
              replace g4 := Lib.hid g4
              replace g5 := Lib.hid g5
              replace g6 := Lib.hid g6
              replace g7 := Lib.hid g7
              replace g8 := Lib.hid g8
              replace g9 := Lib.hid g9
              replace g10 := Lib.hid g10
              replace g11 := Lib.hid g11
              replace g12 := Lib.hid g12
              replace g13 := Lib.hid g13
              replace g14 := Lib.hid g14
              replace g15 := Lib.hid g15
              replace g16 := Lib.hid g16
              replace g17 := Lib.hid g17
              replace g18 := Lib.hid g18
              replace g19 := Lib.hid g19
              replace g20 := Lib.hid g20
              replace g22 := Lib.hid g22
              replace g24 := Lib.hid g24
              clear haf
              rw [HLIT.out]
              go_simp
              exact hK.out _ _ ⟨m, r, v70, v71, v72, v73, v74, .int .i64 2, v76, v77, v78, v79, v80, v81, v82, v83, v84, v85, v86, v69, v87, v88, v89, v18, v17, v19, (by rw [HLIT.out]), hM.out, (imp_free 5 hI.out (by decide)), g0.out, g1.out, g2.out, g3.out, g4.out, fun _ => rfl, g6.out, g7.out, g8.out, g9.out, g10.out, g11.out, g12.out, g13.out, g14.out, g15.out, g16.out, g17.out, g18.out, g19.out, g20.out, g22.out, g24.out⟩
            · intro bf ac wv hfb haf hJ K' hK
              obtain ⟨m, hJ⟩ := hJ
              obtain ⟨r, hJ⟩ := hJ
              obtain ⟨v70, hJ⟩ := hJ
              obtain ⟨v71, hJ⟩ := hJ
              obtain ⟨v72, hJ⟩ := hJ
              obtain ⟨v73, hJ⟩ := hJ
              obtain ⟨v74, hJ⟩ := hJ
              obtain ⟨v75, hJ⟩ := hJ
              obtain ⟨v76, hJ⟩ := hJ
              obtain ⟨v77, hJ⟩ := hJ
              obtain ⟨v78, hJ⟩ := hJ
              obtain ⟨v79, hJ⟩ := hJ
              obtain ⟨v80, hJ⟩ := hJ
              obtain ⟨v81, hJ⟩ := hJ
              obtain ⟨v82, hJ⟩ := hJ
              obtain ⟨v83, hJ⟩ := hJ
              obtain ⟨v84, hJ⟩ := hJ
              obtain ⟨v85, hJ⟩ := hJ
              obtain ⟨v86, hJ⟩ := hJ
              obtain ⟨v69, hJ⟩ := hJ
              obtain ⟨v87, hJ⟩ := hJ
              obtain ⟨v88, hJ⟩ := hJ
              obtain ⟨v89, hJ⟩ := hJ
              obtain ⟨v18, hJ⟩ := hJ
              obtain ⟨v17, hJ⟩ := hJ
              obtain ⟨v19, hJ⟩ := hJ
              obtain ⟨rfl, hJ⟩ := hJ
              obtain ⟨hM, hJ⟩ := hJ
              obtain ⟨hI, hJ⟩ := hJ
              obtain ⟨g0, hJ⟩ := hJ
              obtain ⟨g1, hJ⟩ := hJ
              obtain ⟨g2, hJ⟩ := hJ
              obtain ⟨g3, hJ⟩ := hJ
              obtain ⟨g4, hJ⟩ := hJ
              obtain ⟨g5, hJ⟩ := hJ
              obtain ⟨g6, hJ⟩ := hJ
              obtain ⟨g7, hJ⟩ := hJ
              obtain ⟨g8, hJ⟩ := hJ
              obtain ⟨g9, hJ⟩ := hJ
              obtain ⟨g10, hJ⟩ := hJ
              obtain ⟨g11, hJ⟩ := hJ
              obtain ⟨g12, hJ⟩ := hJ
              obtain ⟨g13, hJ⟩ := hJ
              obtain ⟨g14, hJ⟩ := hJ
              obtain ⟨g15, hJ⟩ := hJ
              obtain ⟨g16, hJ⟩ := hJ
              obtain ⟨g17, hJ⟩ := hJ
              obtain ⟨g18, hJ⟩ := hJ
              obtain ⟨g19, hJ⟩ := hJ
              obtain ⟨g20, hJ⟩ := hJ
              obtain ⟨g22, hJ⟩ := hJ
              have g24 := hJ
              clear hJ
              replace hK := Lib.hid hK
              replace hM := Lib.hid hM
              replace hI := Lib.hid hI
              replace hfb := Lib.hid hfb
              replace g0 := Lib.hid g0
              replace g1 := Lib.hid g1
              replace g2 := Lib.hid g2
              replace g3 := Lib.hid g3
              replace g4 := Lib.hid g4
              replace g5 := Lib.hid g5
              replace g6 := Lib.hid g6
              replace g7 := Lib.hid g7
              replace g8 := Lib.hid g8
              replace g9 := Lib.hid g9
              replace g10 := Lib.hid g10
              replace g11 := Lib.hid g11
              replace g12 := Lib.hid g12
              replace g13 := Lib.hid g13
              replace g14 := Lib.hid g14
              replace g15 := Lib.hid g15
              replace g16 := Lib.hid g16
              replace g17 := Lib.hid g17
              replace g18 := Lib.hid g18
              replace g19 := Lib.hid g19
              replace g20 := Lib.hid g20
              replace g22 := Lib.hid g22
              replace g24 := Lib.hid g24
              simp [Region.binds] at haf
              have hb4 := Lib.hid (show bf 4 = true by simp [haf])
              have hb5 := Lib.hid (show bf 5 = true by simp [haf])
              clear haf
              obtain rfl := (g4.out hb4.out).symm
              obtain rfl := (g5.out hb5.out).symm
              rw [HLIT.out]
              have q1 : x.hub.tmod 2 = x.hub % 2 := Int.tmod_eq_emod_of_nonneg p1
              have q2 : IntKind.i64.wrap (x.hub % 2) = x.hub % 2 := IntWalk.i64_in _ (by omega)
              go_simp
              exact hK.out _ _ ⟨m, r, v70, v71, v72, v73, .int .i64 x.hub, .int .i64 2, .int .i64 (x.hub % 2), v77, v78, v79, v80, v81, v82, v83, v84, v85, v86, v69, v87, v88, v89, v18, v17, v19, (by rw [HLIT.out]), hM.out, (imp_free 6 hI.out (by decide)), g0.out, g1.out, g2.out, g3.out, g4.out, g5.out, fun _ => rfl, g7.out, g8.out, g9.out, g10.out, g11.out, g12.out, g13.out, g14.out, g15.out, g16.out, g17.out, g18.out, g19.out, g20.out, g22.out, g24.out⟩
            · intro bf ac wv hfb haf hJ K' hK
              obtain ⟨m, hJ⟩ := hJ
              obtain ⟨r, hJ⟩ := hJ
              obtain ⟨v70, hJ⟩ := hJ
              obtain ⟨v71, hJ⟩ := hJ
              obtain ⟨v72, hJ⟩ := hJ
              obtain ⟨v73, hJ⟩ := hJ
              obtain ⟨v74, hJ⟩ := hJ
              obtain ⟨v75, hJ⟩ := hJ
              obtain ⟨v76, hJ⟩ := hJ
              obtain ⟨v77, hJ⟩ := hJ
              obtain ⟨v78, hJ⟩ := hJ
              obtain ⟨v79, hJ⟩ := hJ
              obtain ⟨v80, hJ⟩ := hJ
              obtain ⟨v81, hJ⟩ := hJ
              obtain ⟨v82, hJ⟩ := hJ
              obtain ⟨v83, hJ⟩ := hJ
              obtain ⟨v84, hJ⟩ := hJ
              obtain ⟨v85, hJ⟩ := hJ
              obtain ⟨v86, hJ⟩ := hJ
              obtain ⟨v69, hJ⟩ := hJ
              obtain ⟨v87, hJ⟩ := hJ
              obtain ⟨v88, hJ⟩ := hJ
              obtain ⟨v89, hJ⟩ := hJ
              obtain ⟨v18, hJ⟩ := hJ
              obtain ⟨v17, hJ⟩ := hJ
              obtain ⟨v19, hJ⟩ := hJ
              obtain ⟨rfl, hJ⟩ := hJ
              obtain ⟨hM, hJ⟩ := hJ
              obtain ⟨hI, hJ⟩ := hJ
              obtain ⟨g0, hJ⟩ := hJ
              obtain ⟨g1, hJ⟩ := hJ
              obtain ⟨g2, hJ⟩ := hJ
              obtain ⟨g3, hJ⟩ := hJ
              obtain ⟨g4, hJ⟩ := hJ
              obtain ⟨g5, hJ⟩ := hJ
              obtain ⟨g6, hJ⟩ := hJ
              obtain ⟨g7, hJ⟩ := hJ
              obtain ⟨g8, hJ⟩ := hJ
              obtain ⟨g9, hJ⟩ := hJ
              obtain ⟨g10, hJ⟩ := hJ
              obtain ⟨g11, hJ⟩ := hJ
              obtain ⟨g12, hJ⟩ := hJ
              obtain ⟨g13, hJ⟩ := hJ
              obtain ⟨g14, hJ⟩ := hJ
              obtain ⟨g15, hJ⟩ := hJ
              obtain ⟨g16, hJ⟩ := hJ
              obtain ⟨g17, hJ⟩ := hJ
              obtain ⟨g18, hJ⟩ := hJ
              obtain ⟨g19, hJ⟩ := hJ
              obtain ⟨g20, hJ⟩ := hJ
              obtain ⟨g22, hJ⟩ := hJ
              have g24 := hJ
              clear hJ
              replace hK := Lib.hid hK
              replace hM := Lib.hid hM
              replace hI := Lib.hid hI
              replace hfb := Lib.hid hfb
              replace g0 := Lib.hid g0
              replace g1 := Lib.hid g1
              replace g2 := Lib.hid g2
              replace g3 := Lib.hid g3
              replace g4 := Lib.hid g4
              replace g5 := Lib.hid g5
              replace g6 := Lib.hid g6
              replace g7 := Lib.hid g7
              replace g8 := Lib.hid g8
              replace g9 := Lib.hid g9
              replace g10 := Lib.hid g10
              replace g11 := Lib.hid g11
              replace g12 := Lib.hid g12
              replace g13 := Lib.hid g13
              replace g14 := Lib.hid g14
              replace g15 := Lib.hid g15
              replace g16 := Lib.hid g16
              replace g17 := Lib.hid g17
              replace g18 := Lib.hid g18
              replace g19 := Lib.hid g19
              replace g20 := Lib.hid g20
              replace g22 := Lib.hid g22
              replace g24 := Lib.hid g24
              clear haf
              rw [HLIT.out]
              go_simp
              exact hK.out _ _ ⟨m, r, v70, v71, v72, v73, v74, v75, v76, .int .i64 c, v78, v79, v80, v81, v82, v83, v84, v85, v86, v69, v87, v88, v89, v18, v17, v19, (by rw [HLIT.out]), hM.out, (imp_free 7 hI.out (by decide)), g0.out, g1.out, g2.out, g3.out, g4.out, g5.out, g6.out, fun _ => rfl, g8.out, g9.out, g10.out, g11.out, g12.out, g13.out, g14.out, g15.out, g16.out, g17.out, g18.out, g19.out, g20.out, g22.out, g24.out⟩
            · intro bf ac wv hfb haf hJ K' hK
              obtain ⟨m, hJ⟩ := hJ
              obtain ⟨r, hJ⟩ := hJ
              obtain ⟨v70, hJ⟩ := hJ
              obtain ⟨v71, hJ⟩ := hJ
              obtain ⟨v72, hJ⟩ := hJ
              obtain ⟨v73, hJ⟩ := hJ
              obtain ⟨v74, hJ⟩ := hJ
              obtain ⟨v75, hJ⟩ := hJ
              obtain ⟨v76, hJ⟩ := hJ
              obtain ⟨v77, hJ⟩ := hJ
              obtain ⟨v78, hJ⟩ := hJ
              obtain ⟨v79, hJ⟩ := hJ
              obtain ⟨v80, hJ⟩ := hJ
              obtain ⟨v81, hJ⟩ := hJ
              obtain ⟨v82, hJ⟩ := hJ
              obtain ⟨v83, hJ⟩ := hJ
              obtain ⟨v84, hJ⟩ := hJ
              obtain ⟨v85, hJ⟩ := hJ
              obtain ⟨v86, hJ⟩ := hJ
              obtain ⟨v69, hJ⟩ := hJ
              obtain ⟨v87, hJ⟩ := hJ
              obtain ⟨v88, hJ⟩ := hJ
              obtain ⟨v89, hJ⟩ := hJ
              obtain ⟨v18, hJ⟩ := hJ
              obtain ⟨v17, hJ⟩ := hJ
              obtain ⟨v19, hJ⟩ := hJ
              obtain ⟨rfl, hJ⟩ := hJ
              obtain ⟨hM, hJ⟩ := hJ
              obtain ⟨hI, hJ⟩ := hJ
              obtain ⟨g0, hJ⟩ := hJ
              obtain ⟨g1, hJ⟩ := hJ
              obtain ⟨g2, hJ⟩ := hJ
              obtain ⟨g3, hJ⟩ := hJ
              obtain ⟨g4, hJ⟩ := hJ
              obtain ⟨g5, hJ⟩ := hJ
              obtain ⟨g6, hJ⟩ := hJ
              obtain ⟨g7, hJ⟩ := hJ
              obtain ⟨g8, hJ⟩ := hJ
              obtain ⟨g9, hJ⟩ := hJ
              obtain ⟨g10, hJ⟩ := hJ
              obtain ⟨g11, hJ⟩ := hJ
              obtain ⟨g12, hJ⟩ := hJ
              obtain ⟨g13, hJ⟩ := hJ
              obtain ⟨g14, hJ⟩ := hJ
              obtain ⟨g15, hJ⟩ := hJ
              obtain ⟨g16, hJ⟩ := hJ
              obtain ⟨g17, hJ⟩ := hJ
              obtain ⟨g18, hJ⟩ := hJ
              obtain ⟨g19, hJ⟩ := hJ
              obtain ⟨g20, hJ⟩ := hJ
              obtain ⟨g22, hJ⟩ := hJ
              have g24 := hJ
              clear hJ
              replace hK := Lib.hid hK
              replace hM := Lib.hid hM
              replace hI := Lib.hid hI
              replace hfb := Lib.hid hfb
              replace g0 := Lib.hid g0
              replace g1 := Lib.hid g1
              replace g2 := Lib.hid g2
              replace g3 := Lib.hid g3
              replace g4 := Lib.hid g4
              replace g5 := Lib.hid g5
              replace g6 := Lib.hid g6
              replace g7 := Lib.hid g7
              replace g8 := Lib.hid g8
              replace g9 := Lib.hid g9
              replace g10 := Lib.hid g10
              replace g11 := Lib.hid g11
              replace g12 := Lib.hid g12
              replace g13 := Lib.hid g13
              replace g14 := Lib.hid g14
              replace g15 := Lib.hid g15
              replace g16 := Lib.hid g16
              replace g17 := Lib.hid g17
              replace g18 := Lib.hid g18
              replace g19 := Lib.hid g19
              replace g20 := Lib.hid g20
              replace g22 := Lib.hid g22
              replace g24 := Lib.hid g24
              clear haf
              rw [HLIT.out]
              go_simp
              exact hK.out _ _ ⟨m, r, v70, v71, v72, v73, v74, v75, v76, v77, .pointer (some ⟨bt, 2, none⟩), v79, v80, v81, v82, v83, v84, v85, v86, v69, v87, v88, v89, v18, v17, v19, (by rw [HLIT.out]), hM.out, (imp_free 8 hI.out (by decide)), g0.out, g1.out, g2.out, g3.out, g4.out, g5.out, g6.out, g7.out, fun _ => rfl, g9.out, g10.out, g11.out, g12.out, g13.out, g14.out, g15.out, g16.out, g17.out, g18.out, g19.out, g20.out, g22.out, g24.out⟩
            · intro bf ac wv hfb haf hJ K' hK
              obtain ⟨m, hJ⟩ := hJ
              obtain ⟨r, hJ⟩ := hJ
              obtain ⟨v70, hJ⟩ := hJ
              obtain ⟨v71, hJ⟩ := hJ
              obtain ⟨v72, hJ⟩ := hJ
              obtain ⟨v73, hJ⟩ := hJ
              obtain ⟨v74, hJ⟩ := hJ
              obtain ⟨v75, hJ⟩ := hJ
              obtain ⟨v76, hJ⟩ := hJ
              obtain ⟨v77, hJ⟩ := hJ
              obtain ⟨v78, hJ⟩ := hJ
              obtain ⟨v79, hJ⟩ := hJ
              obtain ⟨v80, hJ⟩ := hJ
              obtain ⟨v81, hJ⟩ := hJ
              obtain ⟨v82, hJ⟩ := hJ
              obtain ⟨v83, hJ⟩ := hJ
              obtain ⟨v84, hJ⟩ := hJ
              obtain ⟨v85, hJ⟩ := hJ
              obtain ⟨v86, hJ⟩ := hJ
              obtain ⟨v69, hJ⟩ := hJ
              obtain ⟨v87, hJ⟩ := hJ
              obtain ⟨v88, hJ⟩ := hJ
              obtain ⟨v89, hJ⟩ := hJ
              obtain ⟨v18, hJ⟩ := hJ
              obtain ⟨v17, hJ⟩ := hJ
              obtain ⟨v19, hJ⟩ := hJ
              obtain ⟨rfl, hJ⟩ := hJ
              obtain ⟨hM, hJ⟩ := hJ
              obtain ⟨hI, hJ⟩ := hJ
              obtain ⟨g0, hJ⟩ := hJ
              obtain ⟨g1, hJ⟩ := hJ
              obtain ⟨g2, hJ⟩ := hJ
              obtain ⟨g3, hJ⟩ := hJ
              obtain ⟨g4, hJ⟩ := hJ
              obtain ⟨g5, hJ⟩ := hJ
              obtain ⟨g6, hJ⟩ := hJ
              obtain ⟨g7, hJ⟩ := hJ
              obtain ⟨g8, hJ⟩ := hJ
              obtain ⟨g9, hJ⟩ := hJ
              obtain ⟨g10, hJ⟩ := hJ
              obtain ⟨g11, hJ⟩ := hJ
              obtain ⟨g12, hJ⟩ := hJ
              obtain ⟨g13, hJ⟩ := hJ
              obtain ⟨g14, hJ⟩ := hJ
              obtain ⟨g15, hJ⟩ := hJ
              obtain ⟨g16, hJ⟩ := hJ
              obtain ⟨g17, hJ⟩ := hJ
              obtain ⟨g18, hJ⟩ := hJ
              obtain ⟨g19, hJ⟩ := hJ
              obtain ⟨g20, hJ⟩ := hJ
              obtain ⟨g22, hJ⟩ := hJ
              have g24 := hJ
              clear hJ
              replace hK := Lib.hid hK
              replace hM := Lib.hid hM
              replace hI := Lib.hid hI
              replace hfb := Lib.hid hfb
              replace g0 := Lib.hid g0
              replace g1 := Lib.hid g1
              replace g2 := Lib.hid g2
              replace g3 := Lib.hid g3
              replace g4 := Lib.hid g4
              replace g5 := Lib.hid g5
              replace g6 := Lib.hid g6
              replace g7 := Lib.hid g7
              replace g8 := Lib.hid g8
              replace g9 := Lib.hid g9
              replace g10 := Lib.hid g10
              replace g11 := Lib.hid g11
              replace g12 := Lib.hid g12
              replace g13 := Lib.hid g13
              replace g14 := Lib.hid g14
              replace g15 := Lib.hid g15
              replace g16 := Lib.hid g16
              replace g17 := Lib.hid g17
              replace g18 := Lib.hid g18
              replace g19 := Lib.hid g19
              replace g20 := Lib.hid g20
              replace g22 := Lib.hid g22
              replace g24 := Lib.hid g24
              simp [Region.binds] at haf
              have hb8 := Lib.hid (show bf 8 = true by simp [haf])
              clear haf
              obtain rfl := (g8.out hb8.out).symm
              rw [HLIT.out]
              have hA := HTB.out.step hM.out.below
              have xA := hA.c 2 rfl
              have zA := hA.2.2
              clear hA
              go_simp
              exact hK.out _ _ ⟨m, r, v70, v71, v72, v73, v74, v75, v76, v77, .pointer (some ⟨bt, 2, none⟩), .int .u16 x.aft, v80, v81, v82, v83, v84, v85, v86, v69, v87, v88, v89, v18, v17, v19, (by rw [HLIT.out]), hM.out, (imp_free 9 hI.out (by decide)), g0.out, g1.out, g2.out, g3.out, g4.out, g5.out, g6.out, g7.out, g8.out, fun _ => rfl, g10.out, g11.out, g12.out, g13.out, g14.out, g15.out, g16.out, g17.out, g18.out, g19.out, g20.out, g22.out, g24.out⟩
            · intro bf ac wv hfb haf hJ K' hK
              obtain ⟨m, hJ⟩ := hJ
              obtain ⟨r, hJ⟩ := hJ
              obtain ⟨v70, hJ⟩ := hJ
              obtain ⟨v71, hJ⟩ := hJ
              obtain ⟨v72, hJ⟩ := hJ
              obtain ⟨v73, hJ⟩ := hJ
              obtain ⟨v74, hJ⟩ := hJ
              obtain ⟨v75, hJ⟩ := hJ
              obtain ⟨v76, hJ⟩ := hJ
              obtain ⟨v77, hJ⟩ := hJ
              obtain ⟨v78, hJ⟩ := hJ
              obtain ⟨v79, hJ⟩ := hJ
              obtain ⟨v80, hJ⟩ := hJ
              obtain ⟨v81, hJ⟩ := hJ
              obtain ⟨v82, hJ⟩ := hJ
              obtain ⟨v83, hJ⟩ := hJ
              obtain ⟨v84, hJ⟩ := hJ
              obtain ⟨v85, hJ⟩ := hJ
              obtain ⟨v86, hJ⟩ := hJ
              obtain ⟨v69, hJ⟩ := hJ
              obtain ⟨v87, hJ⟩ := hJ
              obtain ⟨v88, hJ⟩ := hJ
              obtain ⟨v89, hJ⟩ := hJ
              obtain ⟨v18, hJ⟩ := hJ
              obtain ⟨v17, hJ⟩ := hJ
              obtain ⟨v19, hJ⟩ := hJ
              obtain ⟨rfl, hJ⟩ := hJ
              obtain ⟨hM, hJ⟩ := hJ
              obtain ⟨hI, hJ⟩ := hJ
              obtain ⟨g0, hJ⟩ := hJ
              obtain ⟨g1, hJ⟩ := hJ
              obtain ⟨g2, hJ⟩ := hJ
              obtain ⟨g3, hJ⟩ := hJ
              obtain ⟨g4, hJ⟩ := hJ
              obtain ⟨g5, hJ⟩ := hJ
              obtain ⟨g6, hJ⟩ := hJ
              obtain ⟨g7, hJ⟩ := hJ
              obtain ⟨g8, hJ⟩ := hJ
              obtain ⟨g9, hJ⟩ := hJ
              obtain ⟨g10, hJ⟩ := hJ
              obtain ⟨g11, hJ⟩ := hJ
              obtain ⟨g12, hJ⟩ := hJ
              obtain ⟨g13, hJ⟩ := hJ
              obtain ⟨g14, hJ⟩ := hJ
              obtain ⟨g15, hJ⟩ := hJ
              obtain ⟨g16, hJ⟩ := hJ
              obtain ⟨g17, hJ⟩ := hJ
              obtain ⟨g18, hJ⟩ := hJ
              obtain ⟨g19, hJ⟩ := hJ
              obtain ⟨g20, hJ⟩ := hJ
              obtain ⟨g22, hJ⟩ := hJ
              have g24 := hJ
              clear hJ
              replace hK := Lib.hid hK
              replace hM := Lib.hid hM
              replace hI := Lib.hid hI
              replace hfb := Lib.hid hfb
              replace g0 := Lib.hid g0
              replace g1 := Lib.hid g1
              replace g2 := Lib.hid g2
              replace g3 := Lib.hid g3
              replace g4 := Lib.hid g4
              replace g5 := Lib.hid g5
              replace g6 := Lib.hid g6
              replace g7 := Lib.hid g7
              replace g8 := Lib.hid g8
              replace g9 := Lib.hid g9
              replace g10 := Lib.hid g10
              replace g11 := Lib.hid g11
              replace g12 := Lib.hid g12
              replace g13 := Lib.hid g13
              replace g14 := Lib.hid g14
              replace g15 := Lib.hid g15
              replace g16 := Lib.hid g16
              replace g17 := Lib.hid g17
              replace g18 := Lib.hid g18
              replace g19 := Lib.hid g19
              replace g20 := Lib.hid g20
              replace g22 := Lib.hid g22
              replace g24 := Lib.hid g24
              simp [Region.binds] at haf
              have hb9 := Lib.hid (show bf 9 = true by simp [haf])
              clear haf
              obtain rfl := (g9.out hb9.out).symm
              rw [HLIT.out]
              have q1 : IntKind.i64.wrap x.aft = x.aft := IntWalk.i64_in _ (by omega)
              go_simp
              exact hK.out _ _ ⟨m, r, v70, v71, v72, v73, v74, v75, v76, v77, v78, .int .u16 x.aft, .int .i64 x.aft, v81, v82, v83, v84, v85, v86, v69, v87, v88, v89, v18, v17, v19, (by rw [HLIT.out]), hM.out, (imp_free 10 hI.out (by decide)), g0.out, g1.out, g2.out, g3.out, g4.out, g5.out, g6.out, g7.out, g8.out, g9.out, fun _ => rfl, g11.out, g12.out, g13.out, g14.out, g15.out, g16.out, g17.out, g18.out, g19.out, g20.out, g22.out, g24.out⟩
            · intro bf ac wv hfb haf hJ K' hK
              obtain ⟨m, hJ⟩ := hJ
              obtain ⟨r, hJ⟩ := hJ
              obtain ⟨v70, hJ⟩ := hJ
              obtain ⟨v71, hJ⟩ := hJ
              obtain ⟨v72, hJ⟩ := hJ
              obtain ⟨v73, hJ⟩ := hJ
              obtain ⟨v74, hJ⟩ := hJ
              obtain ⟨v75, hJ⟩ := hJ
              obtain ⟨v76, hJ⟩ := hJ
              obtain ⟨v77, hJ⟩ := hJ
              obtain ⟨v78, hJ⟩ := hJ
              obtain ⟨v79, hJ⟩ := hJ
              obtain ⟨v80, hJ⟩ := hJ
              obtain ⟨v81, hJ⟩ := hJ
              obtain ⟨v82, hJ⟩ := hJ
              obtain ⟨v83, hJ⟩ := hJ
              obtain ⟨v84, hJ⟩ := hJ
              obtain ⟨v85, hJ⟩ := hJ
              obtain ⟨v86, hJ⟩ := hJ
              obtain ⟨v69, hJ⟩ := hJ
              obtain ⟨v87, hJ⟩ := hJ
              obtain ⟨v88, hJ⟩ := hJ
              obtain ⟨v89, hJ⟩ := hJ
              obtain ⟨v18, hJ⟩ := hJ
              obtain ⟨v17, hJ⟩ := hJ
              obtain ⟨v19, hJ⟩ := hJ
              obtain ⟨rfl, hJ⟩ := hJ
              obtain ⟨hM, hJ⟩ := hJ
              obtain ⟨hI, hJ⟩ := hJ
              obtain ⟨g0, hJ⟩ := hJ
              obtain ⟨g1, hJ⟩ := hJ
              obtain ⟨g2, hJ⟩ := hJ
              obtain ⟨g3, hJ⟩ := hJ
              obtain ⟨g4, hJ⟩ := hJ
              obtain ⟨g5, hJ⟩ := hJ
              obtain ⟨g6, hJ⟩ := hJ
              obtain ⟨g7, hJ⟩ := hJ
              obtain ⟨g8, hJ⟩ := hJ
              obtain ⟨g9, hJ⟩ := hJ
              obtain ⟨g10, hJ⟩ := hJ
              obtain ⟨g11, hJ⟩ := hJ
              obtain ⟨g12, hJ⟩ := hJ
              obtain ⟨g13, hJ⟩ := hJ
              obtain ⟨g14, hJ⟩ := hJ
              obtain ⟨g15, hJ⟩ := hJ
              obtain ⟨g16, hJ⟩ := hJ
              obtain ⟨g17, hJ⟩ := hJ
              obtain ⟨g18, hJ⟩ := hJ
              obtain ⟨g19, hJ⟩ := hJ
              obtain ⟨g20, hJ⟩ := hJ
              obtain ⟨g22, hJ⟩ := hJ
              have g24 := hJ
              clear hJ
              replace hK := Lib.hid hK
              replace hM := Lib.hid hM
              replace hI := Lib.hid hI
              replace hfb := Lib.hid hfb
              replace g0 := Lib.hid g0
              replace g1 := Lib.hid g1
              replace g2 := Lib.hid g2
              replace g3 := Lib.hid g3
              replace g4 := Lib.hid g4
              replace g5 := Lib.hid g5
              replace g6 := Lib.hid g6
              replace g7 := Lib.hid g7
              replace g8 := Lib.hid g8
              replace g9 := Lib.hid g9
              replace g10 := Lib.hid g10
              replace g11 := Lib.hid g11
              replace g12 := Lib.hid g12
              replace g13 := Lib.hid g13
              replace g14 := Lib.hid g14
              replace g15 := Lib.hid g15
              replace g16 := Lib.hid g16
              replace g17 := Lib.hid g17
              replace g18 := Lib.hid g18
              replace g19 := Lib.hid g19
              replace g20 := Lib.hid g20
              replace g22 := Lib.hid g22
              replace g24 := Lib.hid g24
              simp [Region.binds] at haf
              have hb7 := Lib.hid (show bf 7 = true by simp [haf])
              have hb10 := Lib.hid (show bf 10 = true by simp [haf])
              clear haf
              obtain rfl := (g7.out hb7.out).symm
              obtain rfl := (g10.out hb10.out).symm
              rw [HLIT.out]
              have q1 : IntKind.i64.wrap (c + x.aft) = c + x.aft := IntWalk.i64_in _ (by omega)
              go_simp
              exact hK.out _ _ ⟨m, r, v70, v71, v72, v73, v74, v75, v76, .int .i64 c, v78, v79, .int .i64 x.aft, .int .i64 (c + x.aft), v82, v83, v84, v85, v86, v69, v87, v88, v89, v18, v17, v19, (by rw [HLIT.out]), hM.out, (imp_free 11 hI.out (by decide)), g0.out, g1.out, g2.out, g3.out, g4.out, g5.out, g6.out, g7.out, g8.out, g9.out, g10.out, fun _ => rfl, g12.out, g13.out, g14.out, g15.out, g16.out, g17.out, g18.out, g19.out, g20.out, g22.out, g24.out⟩
            · intro bf ac wv hfb haf hJ K' hK
              obtain ⟨m, hJ⟩ := hJ
              obtain ⟨r, hJ⟩ := hJ
              obtain ⟨v70, hJ⟩ := hJ
              obtain ⟨v71, hJ⟩ := hJ
              obtain ⟨v72, hJ⟩ := hJ
              obtain ⟨v73, hJ⟩ := hJ
              obtain ⟨v74, hJ⟩ := hJ
              obtain ⟨v75, hJ⟩ := hJ
              obtain ⟨v76, hJ⟩ := hJ
              obtain ⟨v77, hJ⟩ := hJ
              obtain ⟨v78, hJ⟩ := hJ
              obtain ⟨v79, hJ⟩ := hJ
              obtain ⟨v80, hJ⟩ := hJ
              obtain ⟨v81, hJ⟩ := hJ
              obtain ⟨v82, hJ⟩ := hJ
              obtain ⟨v83, hJ⟩ := hJ
              obtain ⟨v84, hJ⟩ := hJ
              obtain ⟨v85, hJ⟩ := hJ
              obtain ⟨v86, hJ⟩ := hJ
              obtain ⟨v69, hJ⟩ := hJ
              obtain ⟨v87, hJ⟩ := hJ
              obtain ⟨v88, hJ⟩ := hJ
              obtain ⟨v89, hJ⟩ := hJ
              obtain ⟨v18, hJ⟩ := hJ
              obtain ⟨v17, hJ⟩ := hJ
              obtain ⟨v19, hJ⟩ := hJ
              obtain ⟨rfl, hJ⟩ := hJ
              obtain ⟨hM, hJ⟩ := hJ
              obtain ⟨hI, hJ⟩ := hJ
              obtain ⟨g0, hJ⟩ := hJ
              obtain ⟨g1, hJ⟩ := hJ
              obtain ⟨g2, hJ⟩ := hJ
              obtain ⟨g3, hJ⟩ := hJ
              obtain ⟨g4, hJ⟩ := hJ
              obtain ⟨g5, hJ⟩ := hJ
              obtain ⟨g6, hJ⟩ := hJ
              obtain ⟨g7, hJ⟩ := hJ
              obtain ⟨g8, hJ⟩ := hJ
              obtain ⟨g9, hJ⟩ := hJ
              obtain ⟨g10, hJ⟩ := hJ
              obtain ⟨g11, hJ⟩ := hJ
              obtain ⟨g12, hJ⟩ := hJ
              obtain ⟨g13, hJ⟩ := hJ
              obtain ⟨g14, hJ⟩ := hJ
              obtain ⟨g15, hJ⟩ := hJ
              obtain ⟨g16, hJ⟩ := hJ
              obtain ⟨g17, hJ⟩ := hJ
              obtain ⟨g18, hJ⟩ := hJ
              obtain ⟨g19, hJ⟩ := hJ
              obtain ⟨g20, hJ⟩ := hJ
              obtain ⟨g22, hJ⟩ := hJ
              have g24 := hJ
              clear hJ
              replace hK := Lib.hid hK
              replace hM := Lib.hid hM
              replace hI := Lib.hid hI
              replace hfb := Lib.hid hfb
              replace g0 := Lib.hid g0
              replace g1 := Lib.hid g1
              replace g2 := Lib.hid g2
              replace g3 := Lib.hid g3
              replace g4 := Lib.hid g4
              replace g5 := Lib.hid g5
              replace g6 := Lib.hid g6
              replace g7 := Lib.hid g7
              replace g8 := Lib.hid g8
              replace g9 := Lib.hid g9
              replace g10 := Lib.hid g10
              replace g11 := Lib.hid g11
              replace g12 := Lib.hid g12
              replace g13 := Lib.hid g13
              replace g14 := Lib.hid g14
              replace g15 := Lib.hid g15
              replace g16 := Lib.hid g16
              replace g17 := Lib.hid g17
              replace g18 := Lib.hid g18
              replace g19 := Lib.hid g19
              replace g20 := Lib.hid g20
              replace g22 := Lib.hid g22
              replace g24 := Lib.hid g24
              clear haf
              rw [HLIT.out]
              go_simp
              exact hK.out _ _ ⟨m, r, v70, v71, v72, v73, v74, v75, v76, v77, v78, v79, v80, v81, .pointer (some ⟨bt, 3, none⟩), v83, v84, v85, v86, v69, v87, v88, v89, v18, v17, v19, (by rw [HLIT.out]), hM.out, (imp_free 12 hI.out (by decide)), g0.out, g1.out, g2.out, g3.out, g4.out, g5.out, g6.out, g7.out, g8.out, g9.out, g10.out, g11.out, fun _ => rfl, g13.out, g14.out, g15.out, g16.out, g17.out, g18.out, g19.out, g20.out, g22.out, g24.out⟩
            · intro bf ac wv hfb haf hJ K' hK
              obtain ⟨m, hJ⟩ := hJ
              obtain ⟨r, hJ⟩ := hJ
              obtain ⟨v70, hJ⟩ := hJ
              obtain ⟨v71, hJ⟩ := hJ
              obtain ⟨v72, hJ⟩ := hJ
              obtain ⟨v73, hJ⟩ := hJ
              obtain ⟨v74, hJ⟩ := hJ
              obtain ⟨v75, hJ⟩ := hJ
              obtain ⟨v76, hJ⟩ := hJ
              obtain ⟨v77, hJ⟩ := hJ
              obtain ⟨v78, hJ⟩ := hJ
              obtain ⟨v79, hJ⟩ := hJ
              obtain ⟨v80, hJ⟩ := hJ
              obtain ⟨v81, hJ⟩ := hJ
              obtain ⟨v82, hJ⟩ := hJ
              obtain ⟨v83, hJ⟩ := hJ
              obtain ⟨v84, hJ⟩ := hJ
              obtain ⟨v85, hJ⟩ := hJ
              obtain ⟨v86, hJ⟩ := hJ
              obtain ⟨v69, hJ⟩ := hJ
              obtain ⟨v87, hJ⟩ := hJ
              obtain ⟨v88, hJ⟩ := hJ
              obtain ⟨v89, hJ⟩ := hJ
              obtain ⟨v18, hJ⟩ := hJ
              obtain ⟨v17, hJ⟩ := hJ
              obtain ⟨v19, hJ⟩ := hJ
              obtain ⟨rfl, hJ⟩ := hJ
              obtain ⟨hM, hJ⟩ := hJ
              obtain ⟨hI, hJ⟩ := hJ
              obtain ⟨g0, hJ⟩ := hJ
              obtain ⟨g1, hJ⟩ := hJ
              obtain ⟨g2, hJ⟩ := hJ
              obtain ⟨g3, hJ⟩ := hJ
              obtain ⟨g4, hJ⟩ := hJ
              obtain ⟨g5, hJ⟩ := hJ
              obtain ⟨g6, hJ⟩ := hJ
              obtain ⟨g7, hJ⟩ := hJ
              obtain ⟨g8, hJ⟩ := hJ
              obtain ⟨g9, hJ⟩ := hJ
              obtain ⟨g10, hJ⟩ := hJ
              obtain ⟨g11, hJ⟩ := hJ
              obtain ⟨g12, hJ⟩ := hJ
              obtain ⟨g13, hJ⟩ := hJ
              obtain ⟨g14, hJ⟩ := hJ
              obtain ⟨g15, hJ⟩ := hJ
              obtain ⟨g16, hJ⟩ := hJ
              obtain ⟨g17, hJ⟩ := hJ
              obtain ⟨g18, hJ⟩ := hJ
              obtain ⟨g19, hJ⟩ := hJ
              obtain ⟨g20, hJ⟩ := hJ
              obtain ⟨g22, hJ⟩ := hJ
              have g24 := hJ
              clear hJ
              replace hK := Lib.hid hK
              replace hM := Lib.hid hM
              replace hI := Lib.hid hI
              replace hfb := Lib.hid hfb
              replace g0 := Lib.hid g0
              replace g1 := Lib.hid g1
              replace g2 := Lib.hid g2
              replace g3 := Lib.hid g3
              replace g4 := Lib.hid g4
              replace g5 := Lib.hid g5
              replace g6 := Lib.hid g6
              replace g7 := Lib.hid g7
              replace g8 := Lib.hid g8
              replace g9 := Lib.hid g9
              replace g10 := Lib.hid g10
              replace g11 := Lib.hid g11
              replace g12 := Lib.hid g12
              replace g13 := Lib.hid g13
              replace g14 := Lib.hid g14
              replace g15 := Lib.hid g15
              replace g16 := Lib.hid g16
              replace g17 := Lib.hid g17
              replace g18 := Lib.hid g18
              replace g19 := Lib.hid g19
              replace g20 := Lib.hid g20
              replace g22 := Lib.hid g22
              replace g24 := Lib.hid g24
              simp [Region.binds] at haf
              have hb12 := Lib.hid (show bf 12 = true by simp [haf])
              clear haf
              obtain rfl := (g12.out hb12.out).symm
              rw [HLIT.out]
              have hA := HTB.out.step hM.out.below
              have xA := hA.c 3 rfl
              have zA := hA.2.2
              clear hA
              go_simp
              exact hK.out _ _ ⟨m, r, v70, v71, v72, v73, v74, v75, v76, v77, v78, v79, v80, v81, .pointer (some ⟨bt, 3, none⟩), .int .u16 x.len, v84, v85, v86, v69, v87, v88, v89, v18, v17, v19, (by rw [HLIT.out]), hM.out, (imp_free 13 hI.out (by decide)), g0.out, g1.out, g2.out, g3.out, g4.out, g5.out, g6.out, g7.out, g8.out, g9.out, g10.out, g11.out, g12.out, fun _ => rfl, g14.out, g15.out, g16.out, g17.out, g18.out, g19.out, g20.out, g22.out, g24.out⟩
            · intro bf ac wv hfb haf hJ K' hK
              obtain ⟨m, hJ⟩ := hJ
              obtain ⟨r, hJ⟩ := hJ
              obtain ⟨v70, hJ⟩ := hJ
              obtain ⟨v71, hJ⟩ := hJ
              obtain ⟨v72, hJ⟩ := hJ
              obtain ⟨v73, hJ⟩ := hJ
              obtain ⟨v74, hJ⟩ := hJ
              obtain ⟨v75, hJ⟩ := hJ
              obtain ⟨v76, hJ⟩ := hJ
              obtain ⟨v77, hJ⟩ := hJ
              obtain ⟨v78, hJ⟩ := hJ
              obtain ⟨v79, hJ⟩ := hJ
              obtain ⟨v80, hJ⟩ := hJ
              obtain ⟨v81, hJ⟩ := hJ
              obtain ⟨v82, hJ⟩ := hJ
              obtain ⟨v83, hJ⟩ := hJ
              obtain ⟨v84, hJ⟩ := hJ
              obtain ⟨v85, hJ⟩ := hJ
              obtain ⟨v86, hJ⟩ := hJ
              obtain ⟨v69, hJ⟩ := hJ
              obtain ⟨v87, hJ⟩ := hJ
              obtain ⟨v88, hJ⟩ := hJ
              obtain ⟨v89, hJ⟩ := hJ
              obtain ⟨v18, hJ⟩ := hJ
              obtain ⟨v17, hJ⟩ := hJ
              obtain ⟨v19, hJ⟩ := hJ
              obtain ⟨rfl, hJ⟩ := hJ
              obtain ⟨hM, hJ⟩ := hJ
              obtain ⟨hI, hJ⟩ := hJ
              obtain ⟨g0, hJ⟩ := hJ
              obtain ⟨g1, hJ⟩ := hJ
              obtain ⟨g2, hJ⟩ := hJ
              obtain ⟨g3, hJ⟩ := hJ
              obtain ⟨g4, hJ⟩ := hJ
              obtain ⟨g5, hJ⟩ := hJ
              obtain ⟨g6, hJ⟩ := hJ
              obtain ⟨g7, hJ⟩ := hJ
              obtain ⟨g8, hJ⟩ := hJ
              obtain ⟨g9, hJ⟩ := hJ
              obtain ⟨g10, hJ⟩ := hJ
              obtain ⟨g11, hJ⟩ := hJ
              obtain ⟨g12, hJ⟩ := hJ
              obtain ⟨g13, hJ⟩ := hJ
              obtain ⟨g14, hJ⟩ := hJ
              obtain ⟨g15, hJ⟩ := hJ
              obtain ⟨g16, hJ⟩ := hJ
              obtain ⟨g17, hJ⟩ := hJ
              obtain ⟨g18, hJ⟩ := hJ
              obtain ⟨g19, hJ⟩ := hJ
              obtain ⟨g20, hJ⟩ := hJ
              obtain ⟨g22, hJ⟩ := hJ
              have g24 := hJ
              clear hJ
              replace hK := Lib.hid hK
              replace hM := Lib.hid hM
              replace hI := Lib.hid hI
              replace hfb := Lib.hid hfb
              replace g0 := Lib.hid g0
              replace g1 := Lib.hid g1
              replace g2 := Lib.hid g2
              replace g3 := Lib.hid g3
              replace g4 := Lib.hid g4
              replace g5 := Lib.hid g5
              replace g6 := Lib.hid g6
              replace g7 := Lib.hid g7
              replace g8 := Lib.hid g8
              replace g9 := Lib.hid g9
              replace g10 := Lib.hid g10
              replace g11 := Lib.hid g11
              replace g12 := Lib.hid g12
              replace g13 := Lib.hid g13
              replace g14 := Lib.hid g14
              replace g15 := Lib.hid g15
              replace g16 := Lib.hid g16
              replace g17 := Lib.hid g17
              replace g18 := Lib.hid g18
              replace g19 := Lib.hid g19
              replace g20 := Lib.hid g20
              replace g22 := Lib.hid g22
              replace g24 := Lib.hid g24
              simp [Region.binds] at haf
              have hb13 := Lib.hid (show bf 13 = true by simp [haf])
              clear haf
              obtain rfl := (g13.out hb13.out).symm
              rw [HLIT.out]
              have q1 : IntKind.i64.wrap x.len = x.len := IntWalk.i64_in _ (by omega)
              go_simp
              exact hK.out _ _ ⟨m, r, v70, v71, v72, v73, v74, v75, v76, v77, v78, v79, v80, v81, v82, .int .u16 x.len, .int .i64 x.len, v85, v86, v69, v87, v88, v89, v18, v17, v19, (by rw [HLIT.out]), hM.out, (imp_free 14 hI.out (by decide)), g0.out, g1.out, g2.out, g3.out, g4.out, g5.out, g6.out, g7.out, g8.out, g9.out, g10.out, g11.out, g12.out, g13.out, fun _ => rfl, g15.out, g16.out, g17.out, g18.out, g19.out, g20.out, g22.out, g24.out⟩
            · intro bf ac wv hfb haf hJ K' hK
              obtain ⟨m, hJ⟩ := hJ
              obtain ⟨r, hJ⟩ := hJ
              obtain ⟨v70, hJ⟩ := hJ
              obtain ⟨v71, hJ⟩ := hJ
              obtain ⟨v72, hJ⟩ := hJ
              obtain ⟨v73, hJ⟩ := hJ
              obtain ⟨v74, hJ⟩ := hJ
              obtain ⟨v75, hJ⟩ := hJ
              obtain ⟨v76, hJ⟩ := hJ
              obtain ⟨v77, hJ⟩ := hJ
              obtain ⟨v78, hJ⟩ := hJ
              obtain ⟨v79, hJ⟩ := hJ
              obtain ⟨v80, hJ⟩ := hJ
              obtain ⟨v81, hJ⟩ := hJ
              obtain ⟨v82, hJ⟩ := hJ
              obtain ⟨v83, hJ⟩ := hJ
              obtain ⟨v84, hJ⟩ := hJ
              obtain ⟨v85, hJ⟩ := hJ
              obtain ⟨v86, hJ⟩ := hJ
              obtain ⟨v69, hJ⟩ := hJ
              obtain ⟨v87, hJ⟩ := hJ
              obtain ⟨v88, hJ⟩ := hJ
              obtain ⟨v89, hJ⟩ := hJ
              obtain ⟨v18, hJ⟩ := hJ
              obtain ⟨v17, hJ⟩ := hJ
              obtain ⟨v19, hJ⟩ := hJ
              obtain ⟨rfl, hJ⟩ := hJ
              obtain ⟨hM, hJ⟩ := hJ
              obtain ⟨hI, hJ⟩ := hJ
              obtain ⟨g0, hJ⟩ := hJ
              obtain ⟨g1, hJ⟩ := hJ
              obtain ⟨g2, hJ⟩ := hJ
              obtain ⟨g3, hJ⟩ := hJ
              obtain ⟨g4, hJ⟩ := hJ
              obtain ⟨g5, hJ⟩ := hJ
              obtain ⟨g6, hJ⟩ := hJ
              obtain ⟨g7, hJ⟩ := hJ
              obtain ⟨g8, hJ⟩ := hJ
              obtain ⟨g9, hJ⟩ := hJ
              obtain ⟨g10, hJ⟩ := hJ
              obtain ⟨g11, hJ⟩ := hJ
              obtain ⟨g12, hJ⟩ := hJ
              obtain ⟨g13, hJ⟩ := hJ
              obtain ⟨g14, hJ⟩ := hJ
              obtain ⟨g15, hJ⟩ := hJ
              obtain ⟨g16, hJ⟩ := hJ
              obtain ⟨g17, hJ⟩ := hJ
              obtain ⟨g18, hJ⟩ := hJ
              obtain ⟨g19, hJ⟩ := hJ
              obtain ⟨g20, hJ⟩ := hJ
              obtain ⟨g22, hJ⟩ := hJ
              have g24 := hJ
              clear hJ
              replace hK := Lib.hid hK
              replace hM := Lib.hid hM
              replace hI := Lib.hid hI
              replace hfb := Lib.hid hfb
              replace g0 := Lib.hid g0
              replace g1 := Lib.hid g1
              replace g2 := Lib.hid g2
              replace g3 := Lib.hid g3
              replace g4 := Lib.hid g4
              replace g5 := Lib.hid g5
              replace g6 := Lib.hid g6
              replace g7 := Lib.hid g7
              replace g8 := Lib.hid g8
              replace g9 := Lib.hid g9
              replace g10 := Lib.hid g10
              replace g11 := Lib.hid g11
              replace g12 := Lib.hid g12
              replace g13 := Lib.hid g13
              replace g14 := Lib.hid g14
              replace g15 := Lib.hid g15
              replace g16 := Lib.hid g16
              replace g17 := Lib.hid g17
              replace g18 := Lib.hid g18
              replace g19 := Lib.hid g19
              replace g20 := Lib.hid g20
              replace g22 := Lib.hid g22
              replace g24 := Lib.hid g24
              simp [Region.binds] at haf
              have hb14 := Lib.hid (show bf 14 = true by simp [haf])
              clear haf
              obtain rfl := (g14.out hb14.out).symm
              rw [HLIT.out]
              have q1 : IntKind.i64.wrap (1 + x.len) = 1 + x.len := IntWalk.i64_in _ (by omega)
              go_simp
              exact hK.out _ _ ⟨m, r, v70, v71, v72, v73, v74, v75, v76, v77, v78, v79, v80, v81, v82, v83, .int .i64 x.len, .int .i64 (1 + x.len), v86, v69, v87, v88, v89, v18, v17, v19, (by rw [HLIT.out]), hM.out, (imp_free 15 hI.out (by decide)), g0.out, g1.out, g2.out, g3.out, g4.out, g5.out, g6.out, g7.out, g8.out, g9.out, g10.out, g11.out, g12.out, g13.out, g14.out, fun _ => rfl, g16.out, g17.out, g18.out, g19.out, g20.out, g22.out, g24.out⟩
            · intro bf ac wv hfb haf hJ K' hK
              obtain ⟨m, hJ⟩ := hJ
              obtain ⟨r, hJ⟩ := hJ
              obtain ⟨v70, hJ⟩ := hJ
              obtain ⟨v71, hJ⟩ := hJ
              obtain ⟨v72, hJ⟩ := hJ
              obtain ⟨v73, hJ⟩ := hJ
              obtain ⟨v74, hJ⟩ := hJ
              obtain ⟨v75, hJ⟩ := hJ
              obtain ⟨v76, hJ⟩ := hJ
              obtain ⟨v77, hJ⟩ := hJ
              obtain ⟨v78, hJ⟩ := hJ
              obtain ⟨v79, hJ⟩ := hJ
              obtain ⟨v80, hJ⟩ := hJ
              obtain ⟨v81, hJ⟩ := hJ
              obtain ⟨v82, hJ⟩ := hJ
              obtain ⟨v83, hJ⟩ := hJ
              obtain ⟨v84, hJ⟩ := hJ
              obtain ⟨v85, hJ⟩ := hJ
              obtain ⟨v86, hJ⟩ := hJ
              obtain ⟨v69, hJ⟩ := hJ
              obtain ⟨v87, hJ⟩ := hJ
              obtain ⟨v88, hJ⟩ := hJ
              obtain ⟨v89, hJ⟩ := hJ
              obtain ⟨v18, hJ⟩ := hJ
              obtain ⟨v17, hJ⟩ := hJ
              obtain ⟨v19, hJ⟩ := hJ
              obtain ⟨rfl, hJ⟩ := hJ
              obtain ⟨hM, hJ⟩ := hJ
              obtain ⟨hI, hJ⟩ := hJ
              obtain ⟨g0, hJ⟩ := hJ
              obtain ⟨g1, hJ⟩ := hJ
              obtain ⟨g2, hJ⟩ := hJ
              obtain ⟨g3, hJ⟩ := hJ
              obtain ⟨g4, hJ⟩ := hJ
              obtain ⟨g5, hJ⟩ := hJ
              obtain ⟨g6, hJ⟩ := hJ
              obtain ⟨g7, hJ⟩ := hJ
              obtain ⟨g8, hJ⟩ := hJ
              obtain ⟨g9, hJ⟩ := hJ
              obtain ⟨g10, hJ⟩ := hJ
              obtain ⟨g11, hJ⟩ := hJ
              obtain ⟨g12, hJ⟩ := hJ
              obtain ⟨g13, hJ⟩ := hJ
              obtain ⟨g14, hJ⟩ := hJ
              obtain ⟨g15, hJ⟩ := hJ
              obtain ⟨g16, hJ⟩ := hJ
              obtain ⟨g17, hJ⟩ := hJ
              obtain ⟨g18, hJ⟩ := hJ
              obtain ⟨g19, hJ⟩ := hJ
              obtain ⟨g20, hJ⟩ := hJ
              obtain ⟨g22, hJ⟩ := hJ
              have g24 := hJ
              clear hJ
              replace hK := Lib.hid hK
              replace hM := Lib.hid hM
              replace hI := Lib.hid hI
              replace hfb := Lib.hid hfb
              replace g0 := Lib.hid g0
              replace g1 := Lib.hid g1
              replace g2 := Lib.hid g2
              replace g3 := Lib.hid g3
              replace g4 := Lib.hid g4
              replace g5 := Lib.hid g5
              replace g6 := Lib.hid g6
              replace g7 := Lib.hid g7
              replace g8 := Lib.hid g8
              replace g9 := Lib.hid g9
              replace g10 := Lib.hid g10
              replace g11 := Lib.hid g11
              replace g12 := Lib.hid g12
              replace g13 := Lib.hid g13
              replace g14 := Lib.hid g14
              replace g15 := Lib.hid g15
              replace g16 := Lib.hid g16
              replace g17 := Lib.hid g17
              replace g18 := Lib.hid g18
              replace g19 := Lib.hid g19
              replace g20 := Lib.hid g20
              replace g22 := Lib.hid g22
              replace g24 := Lib.hid g24
              simp [Region.binds] at haf
              have hb0 := Lib.hid (show bf 0 = true by simp [haf])
              have hb1 := Lib.hid (show bf 1 = true by simp [haf])
              have hb6 := Lib.hid (show bf 6 = true by simp [haf])
              have hb11 := Lib.hid (show bf 11 = true by simp [haf])
              have hb15 := Lib.hid (show bf 15 = true by simp [haf])
              clear haf
              obtain rfl := (g0.out hb0.out).symm
              obtain rfl := (g1.out hb1.out).symm
              obtain rfl := (g6.out hb6.out).symm
              obtain rfl := (g11.out hb11.out).symm
              obtain rfl := (g15.out hb15.out).symm
              rw [HLIT.out]
              have n17 := Lib.hid (hI.out.no 17 16 (by simp [chainW]) hfb.out)
              have n18 := Lib.hid (hI.out.no 18 17 (by simp [chainW]) n17.out)
              have n22 := Lib.hid (hI.out.no 22 18 (by simp [chainW]) n18.out)
              go_simp
              go_at_call 10
              refine (elect_any HE.out _ _ _ (HLq.out.step hM.out.below) (HAq.out.step hM.out.below)).mono ?_
              rintro e w5 ⟨r5, rfl, hr5, b5⟩
              clear hr5
              exact hK.out _ _ ⟨m, r5, .slice la 2 lc, .slice aa 2 ac2, v72, v73, v74, v75, .int .i64 (x.hub % 2), v77, v78, v79, v80, .int .i64 (c + x.aft), v82, v83, v84, .int .i64 (1 + x.len), .tuple #[r5, .agg #[.int .i64 h, .int .i64 f, .int .i64 u], .int .i64 er], v69, v87, v88, v89, v18, v17, v19, (by rw [HLIT.out]), (hM.out.step b5), (imp_free 16 hI.out (by decide)), g0.out, g1.out, g2.out, g3.out, g4.out, g5.out, g6.out, g7.out, g8.out, g9.out, g10.out, g11.out, g12.out, g13.out, g14.out, g15.out, fun _ => rfl, no_of n17.out, no_of n18.out, g19.out, g20.out, no_of n22.out, g24.out⟩
            · intro bf ac wv hfb haf hJ K' hK
              obtain ⟨m, hJ⟩ := hJ
              obtain ⟨r, hJ⟩ := hJ
              obtain ⟨v70, hJ⟩ := hJ
              obtain ⟨v71, hJ⟩ := hJ
              obtain ⟨v72, hJ⟩ := hJ
              obtain ⟨v73, hJ⟩ := hJ
              obtain ⟨v74, hJ⟩ := hJ
              obtain ⟨v75, hJ⟩ := hJ
              obtain ⟨v76, hJ⟩ := hJ
              obtain ⟨v77, hJ⟩ := hJ
              obtain ⟨v78, hJ⟩ := hJ
              obtain ⟨v79, hJ⟩ := hJ
              obtain ⟨v80, hJ⟩ := hJ
              obtain ⟨v81, hJ⟩ := hJ
              obtain ⟨v82, hJ⟩ := hJ
              obtain ⟨v83, hJ⟩ := hJ
              obtain ⟨v84, hJ⟩ := hJ
              obtain ⟨v85, hJ⟩ := hJ
              obtain ⟨v86, hJ⟩ := hJ
              obtain ⟨v69, hJ⟩ := hJ
              obtain ⟨v87, hJ⟩ := hJ
              obtain ⟨v88, hJ⟩ := hJ
              obtain ⟨v89, hJ⟩ := hJ
              obtain ⟨v18, hJ⟩ := hJ
              obtain ⟨v17, hJ⟩ := hJ
              obtain ⟨v19, hJ⟩ := hJ
              obtain ⟨rfl, hJ⟩ := hJ
              obtain ⟨hM, hJ⟩ := hJ
              obtain ⟨hI, hJ⟩ := hJ
              obtain ⟨g0, hJ⟩ := hJ
              obtain ⟨g1, hJ⟩ := hJ
              obtain ⟨g2, hJ⟩ := hJ
              obtain ⟨g3, hJ⟩ := hJ
              obtain ⟨g4, hJ⟩ := hJ
              obtain ⟨g5, hJ⟩ := hJ
              obtain ⟨g6, hJ⟩ := hJ
              obtain ⟨g7, hJ⟩ := hJ
              obtain ⟨g8, hJ⟩ := hJ
              obtain ⟨g9, hJ⟩ := hJ
              obtain ⟨g10, hJ⟩ := hJ
              obtain ⟨g11, hJ⟩ := hJ
              obtain ⟨g12, hJ⟩ := hJ
              obtain ⟨g13, hJ⟩ := hJ
              obtain ⟨g14, hJ⟩ := hJ
              obtain ⟨g15, hJ⟩ := hJ
              obtain ⟨g16, hJ⟩ := hJ
              obtain ⟨g17, hJ⟩ := hJ
              obtain ⟨g18, hJ⟩ := hJ
              obtain ⟨g19, hJ⟩ := hJ
              obtain ⟨g20, hJ⟩ := hJ
              obtain ⟨g22, hJ⟩ := hJ
              have g24 := hJ
              clear hJ
              replace hK := Lib.hid hK
              replace hM := Lib.hid hM
              replace hI := Lib.hid hI
              replace hfb := Lib.hid hfb
              replace g0 := Lib.hid g0
              replace g1 := Lib.hid g1
              replace g2 := Lib.hid g2
              replace g3 := Lib.hid g3
              replace g4 := Lib.hid g4
              replace g5 := Lib.hid g5
              replace g6 := Lib.hid g6
              replace g7 := Lib.hid g7
              replace g8 := Lib.hid g8
              replace g9 := Lib.hid g9
              replace g10 := Lib.hid g10
              replace g11 := Lib.hid g11
              replace g12 := Lib.hid g12
              replace g13 := Lib.hid g13
              replace g14 := Lib.hid g14
              replace g15 := Lib.hid g15
              replace g16 := Lib.hid g16
              replace g17 := Lib.hid g17
              replace g18 := Lib.hid g18
              replace g19 := Lib.hid g19
              replace g20 := Lib.hid g20
              replace g22 := Lib.hid g22
              replace g24 := Lib.hid g24
              simp [Region.binds] at haf
              have hb16 := Lib.hid (show bf 16 = true by simp [haf])
              clear haf
              obtain rfl := (g16.out hb16.out).symm
              rw [HLIT.out]
              go_simp
              exact hK.out _ _ ⟨m, r, v70, v71, v72, v73, v74, v75, v76, v77, v78, v79, v80, v81, v82, v83, v84, v85, .tuple #[r, .agg #[.int .i64 h, .int .i64 f, .int .i64 u], .int .i64 er], .tuple #[r, .agg #[.int .i64 h, .int .i64 f, .int .i64 u], .int .i64 er], v87, v88, v89, v18, v17, v19, (by rw [HLIT.out]), hM.out, (imp_one 17 16 hI.out (by decide) hb16.out), g0.out, g1.out, g2.out, g3.out, g4.out, g5.out, g6.out, g7.out, g8.out, g9.out, g10.out, g11.out, g12.out, g13.out, g14.out, g15.out, g16.out, fun _ => rfl, g18.out, g19.out, g20.out, g22.out, g24.out⟩
            · intro bf ac wv hfb haf hJ K' hK
              obtain ⟨m, hJ⟩ := hJ
              obtain ⟨r, hJ⟩ := hJ
              obtain ⟨v70, hJ⟩ := hJ
              obtain ⟨v71, hJ⟩ := hJ
              obtain ⟨v72, hJ⟩ := hJ
              obtain ⟨v73, hJ⟩ := hJ
              obtain ⟨v74, hJ⟩ := hJ
              obtain ⟨v75, hJ⟩ := hJ
              obtain ⟨v76, hJ⟩ := hJ
              obtain ⟨v77, hJ⟩ := hJ
              obtain ⟨v78, hJ⟩ := hJ
              obtain ⟨v79, hJ⟩ := hJ
              obtain ⟨v80, hJ⟩ := hJ
              obtain ⟨v81, hJ⟩ := hJ
              obtain ⟨v82, hJ⟩ := hJ
              obtain ⟨v83, hJ⟩ := hJ
              obtain ⟨v84, hJ⟩ := hJ
              obtain ⟨v85, hJ⟩ := hJ
              obtain ⟨v86, hJ⟩ := hJ
              obtain ⟨v69, hJ⟩ := hJ
              obtain ⟨v87, hJ⟩ := hJ
              obtain ⟨v88, hJ⟩ := hJ
              obtain ⟨v89, hJ⟩ := hJ
              obtain ⟨v18, hJ⟩ := hJ
              obtain ⟨v17, hJ⟩ := hJ
              obtain ⟨v19, hJ⟩ := hJ
              obtain ⟨rfl, hJ⟩ := hJ
              obtain ⟨hM, hJ⟩ := hJ
              obtain ⟨hI, hJ⟩ := hJ
              obtain ⟨g0, hJ⟩ := hJ
              obtain ⟨g1, hJ⟩ := hJ
              obtain ⟨g2, hJ⟩ := hJ
              obtain ⟨g3, hJ⟩ := hJ
              obtain ⟨g4, hJ⟩ := hJ
              obtain ⟨g5, hJ⟩ := hJ
              obtain ⟨g6, hJ⟩ := hJ
              obtain ⟨g7, hJ⟩ := hJ
              obtain ⟨g8, hJ⟩ := hJ
              obtain ⟨g9, hJ⟩ := hJ
              obtain ⟨g10, hJ⟩ := hJ
              obtain ⟨g11, hJ⟩ := hJ
              obtain ⟨g12, hJ⟩ := hJ
              obtain ⟨g13, hJ⟩ := hJ
              obtain ⟨g14, hJ⟩ := hJ
              obtain ⟨g15, hJ⟩ := hJ
              obtain ⟨g16, hJ⟩ := hJ
              obtain ⟨g17, hJ⟩ := hJ
              obtain ⟨g18, hJ⟩ := hJ
              obtain ⟨g19, hJ⟩ := hJ
              obtain ⟨g20, hJ⟩ := hJ
              obtain ⟨g22, hJ⟩ := hJ
              have g24 := hJ
              clear hJ
              replace hK := Lib.hid hK
              replace hM := Lib.hid hM
              replace hI := Lib.hid hI
              replace hfb := Lib.hid hfb
              replace g0 := Lib.hid g0
              replace g1 := Lib.hid g1
              replace g2 := Lib.hid g2
              replace g3 := Lib.hid g3
              replace g4 := Lib.hid g4
              replace g5 := Lib.hid g5
              replace g6 := Lib.hid g6
              replace g7 := Lib.hid g7
              replace g8 := Lib.hid g8
              replace g9 := Lib.hid g9
              replace g10 := Lib.hid g10
              replace g11 := Lib.hid g11
              replace g12 := Lib.hid g12
              replace g13 := Lib.hid g13
              replace g14 := Lib.hid g14
              replace g15 := Lib.hid g15
              replace g16 := Lib.hid g16
              replace g17 := Lib.hid g17
              replace g18 := Lib.hid g18
              replace g19 := Lib.hid g19
              replace g20 := Lib.hid g20
              replace g22 := Lib.hid g22
              replace g24 := Lib.hid g24
              simp [Region.binds] at haf
              have hb17 := Lib.hid (show bf 17 = true by simp [haf])
              clear haf
              obtain rfl := (g17.out hb17.out).symm
              rw [HLIT.out]
              go_simp
              exact hK.out _ _ ⟨m, r, v70, v71, v72, v73, v74, v75, v76, v77, v78, v79, v80, v81, v82, v83, v84, v85, v86, .tuple #[r, .agg #[.int .i64 h, .int .i64 f, .int .i64 u], .int .i64 er], r, v88, v89, v18, v17, v19, (by rw [HLIT.out]), hM.out, (imp_one 18 17 hI.out (by decide) hb17.out), g0.out, g1.out, g2.out, g3.out, g4.out, g5.out, g6.out, g7.out, g8.out, g9.out, g10.out, g11.out, g12.out, g13.out, g14.out, g15.out, g16.out, g17.out, fun _ => rfl, g19.out, g20.out, g22.out, g24.out⟩
            · intro bf ac wv hfb haf hJ K' hK
              obtain ⟨m, hJ⟩ := hJ
              obtain ⟨r, hJ⟩ := hJ
              obtain ⟨v70, hJ⟩ := hJ
              obtain ⟨v71, hJ⟩ := hJ
              obtain ⟨v72, hJ⟩ := hJ
              obtain ⟨v73, hJ⟩ := hJ
              obtain ⟨v74, hJ⟩ := hJ
              obtain ⟨v75, hJ⟩ := hJ
              obtain ⟨v76, hJ⟩ := hJ
              obtain ⟨v77, hJ⟩ := hJ
              obtain ⟨v78, hJ⟩ := hJ
              obtain ⟨v79, hJ⟩ := hJ
              obtain ⟨v80, hJ⟩ := hJ
              obtain ⟨v81, hJ⟩ := hJ
              obtain ⟨v82, hJ⟩ := hJ
              obtain ⟨v83, hJ⟩ := hJ
              obtain ⟨v84, hJ⟩ := hJ
              obtain ⟨v85, hJ⟩ := hJ
              obtain ⟨v86, hJ⟩ := hJ
              obtain ⟨v69, hJ⟩ := hJ
              obtain ⟨v87, hJ⟩ := hJ
              obtain ⟨v88, hJ⟩ := hJ
              obtain ⟨v89, hJ⟩ := hJ
              obtain ⟨v18, hJ⟩ := hJ
              obtain ⟨v17, hJ⟩ := hJ
              obtain ⟨v19, hJ⟩ := hJ
              obtain ⟨rfl, hJ⟩ := hJ
              obtain ⟨hM, hJ⟩ := hJ
              obtain ⟨hI, hJ⟩ := hJ
              obtain ⟨g0, hJ⟩ := hJ
              obtain ⟨g1, hJ⟩ := hJ
              obtain ⟨g2, hJ⟩ := hJ
              obtain ⟨g3, hJ⟩ := hJ
              obtain ⟨g4, hJ⟩ := hJ
              obtain ⟨g5, hJ⟩ := hJ
              obtain ⟨g6, hJ⟩ := hJ
              obtain ⟨g7, hJ⟩ := hJ
              obtain ⟨g8, hJ⟩ := hJ
              obtain ⟨g9, hJ⟩ := hJ
              obtain ⟨g10, hJ⟩ := hJ
              obtain ⟨g11, hJ⟩ := hJ
              obtain ⟨g12, hJ⟩ := hJ
              obtain ⟨g13, hJ⟩ := hJ
              obtain ⟨g14, hJ⟩ := hJ
              obtain ⟨g15, hJ⟩ := hJ
              obtain ⟨g16, hJ⟩ := hJ
              obtain ⟨g17, hJ⟩ := hJ
              obtain ⟨g18, hJ⟩ := hJ
              obtain ⟨g19, hJ⟩ := hJ
              obtain ⟨g20, hJ⟩ := hJ
              obtain ⟨g22, hJ⟩ := hJ
              have g24 := hJ
              clear hJ
              replace hK := Lib.hid hK
              replace hM := Lib.hid hM
              replace hI := Lib.hid hI
              replace hfb := Lib.hid hfb
              replace g0 := Lib.hid g0
              replace g1 := Lib.hid g1
              replace g2 := Lib.hid g2
              replace g3 := Lib.hid g3
              replace g4 := Lib.hid g4
              replace g5 := Lib.hid g5
              replace g6 := Lib.hid g6
              replace g7 := Lib.hid g7
              replace g8 := Lib.hid g8
              replace g9 := Lib.hid g9
              replace g10 := Lib.hid g10
              replace g11 := Lib.hid g11
              replace g12 := Lib.hid g12
              replace g13 := Lib.hid g13
              replace g14 := Lib.hid g14
              replace g15 := Lib.hid g15
              replace g16 := Lib.hid g16
              replace g17 := Lib.hid g17
              replace g18 := Lib.hid g18
              replace g19 := Lib.hid g19
              replace g20 := Lib.hid g20
              replace g22 := Lib.hid g22
              replace g24 := Lib.hid g24
              simp [Region.binds] at haf
              have hb17 := Lib.hid (show bf 17 = true by simp [haf])
              clear haf
              obtain rfl := (g17.out hb17.out).symm
              rw [HLIT.out]
              go_simp
              exact hK.out _ _ ⟨m, r, v70, v71, v72, v73, v74, v75, v76, v77, v78, v79, v80, v81, v82, v83, v84, v85, v86, .tuple #[r, .agg #[.int .i64 h, .int .i64 f, .int .i64 u], .int .i64 er], v87, .agg #[.int .i64 h, .int .i64 f, .int .i64 u], v89, v18, v17, v19, (by rw [HLIT.out]), hM.out, (imp_free 19 hI.out (by decide)), g0.out, g1.out, g2.out, g3.out, g4.out, g5.out, g6.out, g7.out, g8.out, g9.out, g10.out, g11.out, g12.out, g13.out, g14.out, g15.out, g16.out, g17.out, g18.out, fun _ => rfl, g20.out, g22.out, g24.out⟩
            · intro bf ac wv hfb haf hJ K' hK
              obtain ⟨m, hJ⟩ := hJ
              obtain ⟨r, hJ⟩ := hJ
              obtain ⟨v70, hJ⟩ := hJ
              obtain ⟨v71, hJ⟩ := hJ
              obtain ⟨v72, hJ⟩ := hJ
              obtain ⟨v73, hJ⟩ := hJ
              obtain ⟨v74, hJ⟩ := hJ
              obtain ⟨v75, hJ⟩ := hJ
              obtain ⟨v76, hJ⟩ := hJ
              obtain ⟨v77, hJ⟩ := hJ
              obtain ⟨v78, hJ⟩ := hJ
              obtain ⟨v79, hJ⟩ := hJ
              obtain ⟨v80, hJ⟩ := hJ
              obtain ⟨v81, hJ⟩ := hJ
              obtain ⟨v82, hJ⟩ := hJ
              obtain ⟨v83, hJ⟩ := hJ
              obtain ⟨v84, hJ⟩ := hJ
              obtain ⟨v85, hJ⟩ := hJ
              obtain ⟨v86, hJ⟩ := hJ
              obtain ⟨v69, hJ⟩ := hJ
              obtain ⟨v87, hJ⟩ := hJ
              obtain ⟨v88, hJ⟩ := hJ
              obtain ⟨v89, hJ⟩ := hJ
              obtain ⟨v18, hJ⟩ := hJ
              obtain ⟨v17, hJ⟩ := hJ
              obtain ⟨v19, hJ⟩ := hJ
              obtain ⟨rfl, hJ⟩ := hJ
              obtain ⟨hM, hJ⟩ := hJ
              obtain ⟨hI, hJ⟩ := hJ
              obtain ⟨g0, hJ⟩ := hJ
              obtain ⟨g1, hJ⟩ := hJ
              obtain ⟨g2, hJ⟩ := hJ
              obtain ⟨g3, hJ⟩ := hJ
              obtain ⟨g4, hJ⟩ := hJ
              obtain ⟨g5, hJ⟩ := hJ
              obtain ⟨g6, hJ⟩ := hJ
              obtain ⟨g7, hJ⟩ := hJ
              obtain ⟨g8, hJ⟩ := hJ
              obtain ⟨g9, hJ⟩ := hJ
              obtain ⟨g10, hJ⟩ := hJ
              obtain ⟨g11, hJ⟩ := hJ
              obtain ⟨g12, hJ⟩ := hJ
              obtain ⟨g13, hJ⟩ := hJ
              obtain ⟨g14, hJ⟩ := hJ
              obtain ⟨g15, hJ⟩ := hJ
              obtain ⟨g16, hJ⟩ := hJ
              obtain ⟨g17, hJ⟩ := hJ
              obtain ⟨g18, hJ⟩ := hJ
              obtain ⟨g19, hJ⟩ := hJ
              obtain ⟨g20, hJ⟩ := hJ
              obtain ⟨g22, hJ⟩ := hJ
              have g24 := hJ
              clear hJ
              replace hK := Lib.hid hK
              replace hM := Lib.hid hM
              replace hI := Lib.hid hI
              replace hfb := Lib.hid hfb
              replace g0 := Lib.hid g0
              replace g1 := Lib.hid g1
              replace g2 := Lib.hid g2
              replace g3 := Lib.hid g3
              replace g4 := Lib.hid g4
              replace g5 := Lib.hid g5
              replace g6 := Lib.hid g6
              replace g7 := Lib.hid g7
              replace g8 := Lib.hid g8
              replace g9 := Lib.hid g9
              replace g10 := Lib.hid g10
              replace g11 := Lib.hid g11
              replace g12 := Lib.hid g12
              replace g13 := Lib.hid g13
              replace g14 := Lib.hid g14
              replace g15 := Lib.hid g15
              replace g16 := Lib.hid g16
              replace g17 := Lib.hid g17
              replace g18 := Lib.hid g18
              replace g19 := Lib.hid g19
              replace g20 := Lib.hid g20
              replace g22 := Lib.hid g22
              replace g24 := Lib.hid g24
              simp [Region.binds] at haf
              have hb17 := Lib.hid (show bf 17 = true by simp [haf])
              clear haf
              obtain rfl := (g17.out hb17.out).symm
              rw [HLIT.out]
              go_simp
              exact hK.out _ _ ⟨m, r, v70, v71, v72, v73, v74, v75, v76, v77, v78, v79, v80, v81, v82, v83, v84, v85, v86, .tuple #[r, .agg #[.int .i64 h, .int .i64 f, .int .i64 u], .int .i64 er], v87, v88, .int .i64 er, v18, v17, v19, (by rw [HLIT.out]), hM.out, (imp_free 20 hI.out (by decide)), g0.out, g1.out, g2.out, g3.out, g4.out, g5.out, g6.out, g7.out, g8.out, g9.out, g10.out, g11.out, g12.out, g13.out, g14.out, g15.out, g16.out, g17.out, g18.out, g19.out, fun _ => rfl, g22.out, g24.out⟩
            · intro bf ac wv hfb haf hJ K' hK
              obtain ⟨m, hJ⟩ := hJ
              obtain ⟨r, hJ⟩ := hJ
              obtain ⟨v70, hJ⟩ := hJ
              obtain ⟨v71, hJ⟩ := hJ
              obtain ⟨v72, hJ⟩ := hJ
              obtain ⟨v73, hJ⟩ := hJ
              obtain ⟨v74, hJ⟩ := hJ
              obtain ⟨v75, hJ⟩ := hJ
              obtain ⟨v76, hJ⟩ := hJ
              obtain ⟨v77, hJ⟩ := hJ
              obtain ⟨v78, hJ⟩ := hJ
              obtain ⟨v79, hJ⟩ := hJ
              obtain ⟨v80, hJ⟩ := hJ
              obtain ⟨v81, hJ⟩ := hJ
              obtain ⟨v82, hJ⟩ := hJ
              obtain ⟨v83, hJ⟩ := hJ
              obtain ⟨v84, hJ⟩ := hJ
              obtain ⟨v85, hJ⟩ := hJ
              obtain ⟨v86, hJ⟩ := hJ
              obtain ⟨v69, hJ⟩ := hJ
              obtain ⟨v87, hJ⟩ := hJ
              obtain ⟨v88, hJ⟩ := hJ
              obtain ⟨v89, hJ⟩ := hJ
              obtain ⟨v18, hJ⟩ := hJ
              obtain ⟨v17, hJ⟩ := hJ
              obtain ⟨v19, hJ⟩ := hJ
              obtain ⟨rfl, hJ⟩ := hJ
              obtain ⟨hM, hJ⟩ := hJ
              obtain ⟨hI, hJ⟩ := hJ
              obtain ⟨g0, hJ⟩ := hJ
              obtain ⟨g1, hJ⟩ := hJ
              obtain ⟨g2, hJ⟩ := hJ
              obtain ⟨g3, hJ⟩ := hJ
              obtain ⟨g4, hJ⟩ := hJ
              obtain ⟨g5, hJ⟩ := hJ
              obtain ⟨g6, hJ⟩ := hJ
              obtain ⟨g7, hJ⟩ := hJ
              obtain ⟨g8, hJ⟩ := hJ
              obtain ⟨g9, hJ⟩ := hJ
              obtain ⟨g10, hJ⟩ := hJ
              obtain ⟨g11, hJ⟩ := hJ
              obtain ⟨g12, hJ⟩ := hJ
              obtain ⟨g13, hJ⟩ := hJ
              obtain ⟨g14, hJ⟩ := hJ
              obtain ⟨g15, hJ⟩ := hJ
              obtain ⟨g16, hJ⟩ := hJ
              obtain ⟨g17, hJ⟩ := hJ
              obtain ⟨g18, hJ⟩ := hJ
              obtain ⟨g19, hJ⟩ := hJ
              obtain ⟨g20, hJ⟩ := hJ
              obtain ⟨g22, hJ⟩ := hJ
              have g24 := hJ
              clear hJ
              replace hK := Lib.hid hK
              replace hM := Lib.hid hM
              replace hI := Lib.hid hI
              replace hfb := Lib.hid hfb
              replace g0 := Lib.hid g0
              replace g1 := Lib.hid g1
              replace g2 := Lib.hid g2
              replace g3 := Lib.hid g3
              replace g4 := Lib.hid g4
              replace g5 := Lib.hid g5
              replace g6 := Lib.hid g6
              replace g7 := Lib.hid g7
              replace g8 := Lib.hid g8
              replace g9 := Lib.hid g9
              replace g10 := Lib.hid g10
              replace g11 := Lib.hid g11
              replace g12 := Lib.hid g12
              replace g13 := Lib.hid g13
              replace g14 := Lib.hid g14
              replace g15 := Lib.hid g15
              replace g16 := Lib.hid g16
              replace g17 := Lib.hid g17
              replace g18 := Lib.hid g18
              replace g19 := Lib.hid g19
              replace g20 := Lib.hid g20
              replace g22 := Lib.hid g22
              replace g24 := Lib.hid g24
              clear haf
              rw [HLIT.out]
              have hM2 := hM.out
              rw [hfb.out] at hM2
              have hM3 := Lib.hid hM2.alloc
              clear hM2
              go_simp
              exact hK.out _ _ ⟨wv.heap.size, r, v70, v71, v72, v73, v74, v75, v76, v77, v78, v79, v80, v81, v82, v83, v84, v85, v86, v69, v87, v88, v89, .pointer (some ⟨wv.heap.size, 0, none⟩), v17, v19, (by rw [HLIT.out]), hM3.out, (imp_free 21 hI.out (by decide)), g0.out, g1.out, g2.out, g3.out, g4.out, g5.out, g6.out, g7.out, g8.out, g9.out, g10.out, g11.out, g12.out, g13.out, g14.out, g15.out, g16.out, g17.out, g18.out, g19.out, g20.out, g22.out, g24.out⟩
            · intro bf ac wv hfb haf hJ K' hK
              obtain ⟨m, hJ⟩ := hJ
              obtain ⟨r, hJ⟩ := hJ
              obtain ⟨v70, hJ⟩ := hJ
              obtain ⟨v71, hJ⟩ := hJ
              obtain ⟨v72, hJ⟩ := hJ
              obtain ⟨v73, hJ⟩ := hJ
              obtain ⟨v74, hJ⟩ := hJ
              obtain ⟨v75, hJ⟩ := hJ
              obtain ⟨v76, hJ⟩ := hJ
              obtain ⟨v77, hJ⟩ := hJ
              obtain ⟨v78, hJ⟩ := hJ
              obtain ⟨v79, hJ⟩ := hJ
              obtain ⟨v80, hJ⟩ := hJ
              obtain ⟨v81, hJ⟩ := hJ
              obtain ⟨v82, hJ⟩ := hJ
              obtain ⟨v83, hJ⟩ := hJ
              obtain ⟨v84, hJ⟩ := hJ
              obtain ⟨v85, hJ⟩ := hJ
              obtain ⟨v86, hJ⟩ := hJ
              obtain ⟨v69, hJ⟩ := hJ
              obtain ⟨v87, hJ⟩ := hJ
              obtain ⟨v88, hJ⟩ := hJ
              obtain ⟨v89, hJ⟩ := hJ
              obtain ⟨v18, hJ⟩ := hJ
              obtain ⟨v17, hJ⟩ := hJ
              obtain ⟨v19, hJ⟩ := hJ
              obtain ⟨rfl, hJ⟩ := hJ
              obtain ⟨hM, hJ⟩ := hJ
              obtain ⟨hI, hJ⟩ := hJ
              obtain ⟨g0, hJ⟩ := hJ
              obtain ⟨g1, hJ⟩ := hJ
              obtain ⟨g2, hJ⟩ := hJ
              obtain ⟨g3, hJ⟩ := hJ
              obtain ⟨g4, hJ⟩ := hJ
              obtain ⟨g5, hJ⟩ := hJ
              obtain ⟨g6, hJ⟩ := hJ
              obtain ⟨g7, hJ⟩ := hJ
              obtain ⟨g8, hJ⟩ := hJ
              obtain ⟨g9, hJ⟩ := hJ
              obtain ⟨g10, hJ⟩ := hJ
              obtain ⟨g11, hJ⟩ := hJ
              obtain ⟨g12, hJ⟩ := hJ
              obtain ⟨g13, hJ⟩ := hJ
              obtain ⟨g14, hJ⟩ := hJ
              obtain ⟨g15, hJ⟩ := hJ
              obtain ⟨g16, hJ⟩ := hJ
              obtain ⟨g17, hJ⟩ := hJ
              obtain ⟨g18, hJ⟩ := hJ
              obtain ⟨g19, hJ⟩ := hJ
              obtain ⟨g20, hJ⟩ := hJ
              obtain ⟨g22, hJ⟩ := hJ
              have g24 := hJ
              clear hJ
              replace hK := Lib.hid hK
              replace hM := Lib.hid hM
              replace hI := Lib.hid hI
              replace hfb := Lib.hid hfb
              replace g0 := Lib.hid g0
              replace g1 := Lib.hid g1
              replace g2 := Lib.hid g2
              replace g3 := Lib.hid g3
              replace g4 := Lib.hid g4
              replace g5 := Lib.hid g5
              replace g6 := Lib.hid g6
              replace g7 := Lib.hid g7
              replace g8 := Lib.hid g8
              replace g9 := Lib.hid g9
              replace g10 := Lib.hid g10
              replace g11 := Lib.hid g11
              replace g12 := Lib.hid g12
              replace g13 := Lib.hid g13
              replace g14 := Lib.hid g14
              replace g15 := Lib.hid g15
              replace g16 := Lib.hid g16
              replace g17 := Lib.hid g17
              replace g18 := Lib.hid g18
              replace g19 := Lib.hid g19
              replace g20 := Lib.hid g20
              replace g22 := Lib.hid g22
              replace g24 := Lib.hid g24
              simp [Region.binds] at haf
              have hb18 := Lib.hid (show bf 18 = true by simp [haf])
              clear haf
              obtain rfl := (g18.out hb18.out).symm
              rw [HLIT.out]
              go_simp
              exact hK.out _ _ ⟨m, r, v70, v71, v72, v73, v74, v75, v76, v77, v78, v79, v80, v81, v82, v83, v84, v85, v86, v69, r, v88, v89, v18, r, v19, (by rw [HLIT.out]), hM.out, (imp_one 22 18 hI.out (by decide) hb18.out), g0.out, g1.out, g2.out, g3.out, g4.out, g5.out, g6.out, g7.out, g8.out, g9.out, g10.out, g11.out, g12.out, g13.out, g14.out, g15.out, g16.out, g17.out, g18.out, g19.out, g20.out, fun _ => rfl, g24.out⟩
            · intro bf ac wv hfb haf hJ K' hK
              obtain ⟨m, hJ⟩ := hJ
              obtain ⟨r, hJ⟩ := hJ
              obtain ⟨v70, hJ⟩ := hJ
              obtain ⟨v71, hJ⟩ := hJ
              obtain ⟨v72, hJ⟩ := hJ
              obtain ⟨v73, hJ⟩ := hJ
              obtain ⟨v74, hJ⟩ := hJ
              obtain ⟨v75, hJ⟩ := hJ
              obtain ⟨v76, hJ⟩ := hJ
              obtain ⟨v77, hJ⟩ := hJ
              obtain ⟨v78, hJ⟩ := hJ
              obtain ⟨v79, hJ⟩ := hJ
              obtain ⟨v80, hJ⟩ := hJ
              obtain ⟨v81, hJ⟩ := hJ
              obtain ⟨v82, hJ⟩ := hJ
              obtain ⟨v83, hJ⟩ := hJ
              obtain ⟨v84, hJ⟩ := hJ
              obtain ⟨v85, hJ⟩ := hJ
              obtain ⟨v86, hJ⟩ := hJ
              obtain ⟨v69, hJ⟩ := hJ
              obtain ⟨v87, hJ⟩ := hJ
              obtain ⟨v88, hJ⟩ := hJ
              obtain ⟨v89, hJ⟩ := hJ
              obtain ⟨v18, hJ⟩ := hJ
              obtain ⟨v17, hJ⟩ := hJ
              obtain ⟨v19, hJ⟩ := hJ
              obtain ⟨rfl, hJ⟩ := hJ
              obtain ⟨hM, hJ⟩ := hJ
              obtain ⟨hI, hJ⟩ := hJ
              obtain ⟨g0, hJ⟩ := hJ
              obtain ⟨g1, hJ⟩ := hJ
              obtain ⟨g2, hJ⟩ := hJ
              obtain ⟨g3, hJ⟩ := hJ
              obtain ⟨g4, hJ⟩ := hJ
              obtain ⟨g5, hJ⟩ := hJ
              obtain ⟨g6, hJ⟩ := hJ
              obtain ⟨g7, hJ⟩ := hJ
              obtain ⟨g8, hJ⟩ := hJ
              obtain ⟨g9, hJ⟩ := hJ
              obtain ⟨g10, hJ⟩ := hJ
              obtain ⟨g11, hJ⟩ := hJ
              obtain ⟨g12, hJ⟩ := hJ
              obtain ⟨g13, hJ⟩ := hJ
              obtain ⟨g14, hJ⟩ := hJ
              obtain ⟨g15, hJ⟩ := hJ
              obtain ⟨g16, hJ⟩ := hJ
              obtain ⟨g17, hJ⟩ := hJ
              obtain ⟨g18, hJ⟩ := hJ
              obtain ⟨g19, hJ⟩ := hJ
              obtain ⟨g20, hJ⟩ := hJ
              obtain ⟨g22, hJ⟩ := hJ
              have g24 := hJ
              clear hJ
              replace hK := Lib.hid hK
              replace hM := Lib.hid hM
              replace hI := Lib.hid hI
              replace hfb := Lib.hid hfb
              replace g0 := Lib.hid g0
              replace g1 := Lib.hid g1
              replace g2 := Lib.hid g2
              replace g3 := Lib.hid g3
              replace g4 := Lib.hid g4
              replace g5 := Lib.hid g5
              replace g6 := Lib.hid g6
              replace g7 := Lib.hid g7
              replace g8 := Lib.hid g8
              replace g9 := Lib.hid g9
              replace g10 := Lib.hid g10
              replace g11 := Lib.hid g11
              replace g12 := Lib.hid g12
              replace g13 := Lib.hid g13
              replace g14 := Lib.hid g14
              replace g15 := Lib.hid g15
              replace g16 := Lib.hid g16
              replace g17 := Lib.hid g17
              replace g18 := Lib.hid g18
              replace g19 := Lib.hid g19
              replace g20 := Lib.hid g20
              replace g22 := Lib.hid g22
              replace g24 := Lib.hid g24
              simp [Region.binds] at haf
              have hb19 := Lib.hid (show bf 19 = true by simp [haf])
              have hb21 := Lib.hid (show bf 21 = true by simp [haf])
              clear haf
              obtain rfl := (g19.out hb19.out).symm
              rw [HLIT.out]
              have hM2 := hM.out
              rw [hb21.out, hfb.out] at hM2
              have hM3 := Lib.hid hM2.store
              obtain ⟨rfl, hZ⟩ := hM2.c rfl
              have hZ := Lib.hid hZ
              clear hM2
              have xZ0 := hZ.out.c 0 rfl
              have yZ0 := hZ.out.f 0 (by simp)
              have xZ1 := hZ.out.c 1 rfl
              have yZ1 := hZ.out.f 1 (by simp)
              have xZ2 := hZ.out.c 2 rfl
              have yZ2 := hZ.out.f 2 (by simp)
              have zZ := hZ.out.2.2
              go_simp
              exact hK.out _ _ ⟨m, r, v70, v71, v72, v73, v74, v75, v76, v77, v78, v79, v80, v81, v82, v83, v84, v85, v86, v69, v87, .agg #[.int .i64 h, .int .i64 f, .int .i64 u], v89, .pointer (some ⟨m, 0, none⟩), v17, v19, (by rw [HLIT.out]), (by rw [show up bf 23 21 = true from hb21.out]; exact hM3.out), (imp_free 23 hI.out (by decide)), g0.out, g1.out, g2.out, g3.out, g4.out, g5.out, g6.out, g7.out, g8.out, g9.out, g10.out, g11.out, g12.out, g13.out, g14.out, g15.out, g16.out, g17.out, g18.out, g19.out, g20.out, g22.out, g24.out⟩
            · intro bf ac wv hfb haf hJ K' hK
              obtain ⟨m, hJ⟩ := hJ
              obtain ⟨r, hJ⟩ := hJ
              obtain ⟨v70, hJ⟩ := hJ
              obtain ⟨v71, hJ⟩ := hJ
              obtain ⟨v72, hJ⟩ := hJ
              obtain ⟨v73, hJ⟩ := hJ
              obtain ⟨v74, hJ⟩ := hJ
              obtain ⟨v75, hJ⟩ := hJ
              obtain ⟨v76, hJ⟩ := hJ
              obtain ⟨v77, hJ⟩ := hJ
              obtain ⟨v78, hJ⟩ := hJ
              obtain ⟨v79, hJ⟩ := hJ
              obtain ⟨v80, hJ⟩ := hJ
              obtain ⟨v81, hJ⟩ := hJ
              obtain ⟨v82, hJ⟩ := hJ
              obtain ⟨v83, hJ⟩ := hJ
              obtain ⟨v84, hJ⟩ := hJ
              obtain ⟨v85, hJ⟩ := hJ
              obtain ⟨v86, hJ⟩ := hJ
              obtain ⟨v69, hJ⟩ := hJ
              obtain ⟨v87, hJ⟩ := hJ
              obtain ⟨v88, hJ⟩ := hJ
              obtain ⟨v89, hJ⟩ := hJ
              obtain ⟨v18, hJ⟩ := hJ
              obtain ⟨v17, hJ⟩ := hJ
              obtain ⟨v19, hJ⟩ := hJ
              obtain ⟨rfl, hJ⟩ := hJ
              obtain ⟨hM, hJ⟩ := hJ
              obtain ⟨hI, hJ⟩ := hJ
              obtain ⟨g0, hJ⟩ := hJ
              obtain ⟨g1, hJ⟩ := hJ
              obtain ⟨g2, hJ⟩ := hJ
              obtain ⟨g3, hJ⟩ := hJ
              obtain ⟨g4, hJ⟩ := hJ
              obtain ⟨g5, hJ⟩ := hJ
              obtain ⟨g6, hJ⟩ := hJ
              obtain ⟨g7, hJ⟩ := hJ
              obtain ⟨g8, hJ⟩ := hJ
              obtain ⟨g9, hJ⟩ := hJ
              obtain ⟨g10, hJ⟩ := hJ
              obtain ⟨g11, hJ⟩ := hJ
              obtain ⟨g12, hJ⟩ := hJ
              obtain ⟨g13, hJ⟩ := hJ
              obtain ⟨g14, hJ⟩ := hJ
              obtain ⟨g15, hJ⟩ := hJ
              obtain ⟨g16, hJ⟩ := hJ
              obtain ⟨g17, hJ⟩ := hJ
              obtain ⟨g18, hJ⟩ := hJ
              obtain ⟨g19, hJ⟩ := hJ
              obtain ⟨g20, hJ⟩ := hJ
              obtain ⟨g22, hJ⟩ := hJ
              have g24 := hJ
              clear hJ
              replace hK := Lib.hid hK
              replace hM := Lib.hid hM
              replace hI := Lib.hid hI
              replace hfb := Lib.hid hfb
              replace g0 := Lib.hid g0
              replace g1 := Lib.hid g1
              replace g2 := Lib.hid g2
              replace g3 := Lib.hid g3
              replace g4 := Lib.hid g4
              replace g5 := Lib.hid g5
              replace g6 := Lib.hid g6
              replace g7 := Lib.hid g7
              replace g8 := Lib.hid g8
              replace g9 := Lib.hid g9
              replace g10 := Lib.hid g10
              replace g11 := Lib.hid g11
              replace g12 := Lib.hid g12
              replace g13 := Lib.hid g13
              replace g14 := Lib.hid g14
              replace g15 := Lib.hid g15
              replace g16 := Lib.hid g16
              replace g17 := Lib.hid g17
              replace g18 := Lib.hid g18
              replace g19 := Lib.hid g19
              replace g20 := Lib.hid g20
              replace g22 := Lib.hid g22
              replace g24 := Lib.hid g24
              simp [Region.binds] at haf
              have hb20 := Lib.hid (show bf 20 = true by simp [haf])
              clear haf
              obtain rfl := (g20.out hb20.out).symm
              rw [HLIT.out]
              go_simp
              exact hK.out _ _ ⟨m, r, v70, v71, v72, v73, v74, v75, v76, v77, v78, v79, v80, v81, v82, v83, v84, v85, v86, v69, v87, v88, .int .i64 er, v18, v17, .int .i64 er, (by rw [HLIT.out]), hM.out, (imp_free 24 hI.out (by decide)), g0.out, g1.out, g2.out, g3.out, g4.out, g5.out, g6.out, g7.out, g8.out, g9.out, g10.out, g11.out, g12.out, g13.out, g14.out, g15.out, g16.out, g17.out, g18.out, g19.out, g20.out, g22.out, fun _ => rfl⟩
          · intro bf ac wv hall hJ
            obtain ⟨m, hJ⟩ := hJ
            obtain ⟨r, hJ⟩ := hJ
            obtain ⟨v70, hJ⟩ := hJ
            obtain ⟨v71, hJ⟩ := hJ
            obtain ⟨v72, hJ⟩ := hJ
            obtain ⟨v73, hJ⟩ := hJ
            obtain ⟨v74, hJ⟩ := hJ
            obtain ⟨v75, hJ⟩ := hJ
            obtain ⟨v76, hJ⟩ := hJ
            obtain ⟨v77, hJ⟩ := hJ
            obtain ⟨v78, hJ⟩ := hJ
            obtain ⟨v79, hJ⟩ := hJ
            obtain ⟨v80, hJ⟩ := hJ
            obtain ⟨v81, hJ⟩ := hJ
            obtain ⟨v82, hJ⟩ := hJ
            obtain ⟨v83, hJ⟩ := hJ
            obtain ⟨v84, hJ⟩ := hJ
            obtain ⟨v85, hJ⟩ := hJ
            obtain ⟨v86, hJ⟩ := hJ
            obtain ⟨v69, hJ⟩ := hJ
            obtain ⟨v87, hJ⟩ := hJ
            obtain ⟨v88, hJ⟩ := hJ
            obtain ⟨v89, hJ⟩ := hJ
            obtain ⟨v18, hJ⟩ := hJ
            obtain ⟨v17, hJ⟩ := hJ
            obtain ⟨v19, hJ⟩ := hJ
            obtain ⟨rfl, hJ⟩ := hJ
            obtain ⟨hM, hJ⟩ := hJ
            obtain ⟨hI, hJ⟩ := hJ
            obtain ⟨g0, hJ⟩ := hJ
            obtain ⟨g1, hJ⟩ := hJ
            obtain ⟨g2, hJ⟩ := hJ
            obtain ⟨g3, hJ⟩ := hJ
            obtain ⟨g4, hJ⟩ := hJ
            obtain ⟨g5, hJ⟩ := hJ
            obtain ⟨g6, hJ⟩ := hJ
            obtain ⟨g7, hJ⟩ := hJ
            obtain ⟨g8, hJ⟩ := hJ
            obtain ⟨g9, hJ⟩ := hJ
            obtain ⟨g10, hJ⟩ := hJ
            obtain ⟨g11, hJ⟩ := hJ
            obtain ⟨g12, hJ⟩ := hJ
            obtain ⟨g13, hJ⟩ := hJ
            obtain ⟨g14, hJ⟩ := hJ
            obtain ⟨g15, hJ⟩ := hJ
            obtain ⟨g16, hJ⟩ := hJ
            obtain ⟨g17, hJ⟩ := hJ
            obtain ⟨g18, hJ⟩ := hJ
            obtain ⟨g19, hJ⟩ := hJ
            obtain ⟨g20, hJ⟩ := hJ
            obtain ⟨g22, hJ⟩ := hJ
            have g24 := hJ
            clear hJ
            obtain rfl := (g24 (hall 24 (by decide))).symm
            have HB9 := Lib.hid (keep2 hM.below HBq.out)
            clear hM hI hall g0 g1 g2 g3 g4 g5 g6 g7 g8 g9 g10 g11 g12 g13 g14 g15 g16 g17 g18 g19 g20 g22 g24
            rw [HLIT.out]
            rcases HPP.out with ⟨h5, hmj⟩ | ⟨h5, hmj⟩
            · subst h5
              have q1 : ((2 : Int) < 2 * (trN A 2 : Int)) = True := eq_true (by omega)
              clear HPP
              go_wp2
              go_ret
              exact ⟨rfl, by rw [← hbt]; exact HB9.out⟩
            · subst h5
              have q1 : ((2 : Int) < 2 * (trN A 2 : Int)) = False := eq_false (by omega)
              clear HPP
              go_wp2
              go_ret
              exact ⟨rfl, by rw [← hbt]; exact HB9.out⟩
set_option maxRecDepth 100000 in
set_option maxHeartbeats 16000000 in
theorem waits_3 (v : Value) (T : List Tr) (x : Tr) (w : World) (hl : TrsAt w v T) (hx : ∀ x ∈ T, x.ok) (hxo : x.ok) (h60 : T.length ≤ 60) : Calls Try.prog 8 #[.bool true, v, .agg #[.int .u8 x.hub, .int .u8 x.ans, .int .u16 x.aft, .int .u16 x.len]] w fun e w' => e = .returned (.bool true) ∧ Below w.heap.size w w' := by
  have HL := Lib.hid hl
  have HX := Lib.hid hx
  clear hx
  obtain ⟨a, cap, rfl, -, -⟩ := hl
  obtain ⟨⟨p1, p2⟩, ⟨p3, p4⟩, ⟨p5, p6⟩, ⟨p7, p8⟩⟩ := hxo
  have HT0 := Lib.hid (Cs.new w w.heap.size #[.int .u8 x.hub, .int .u8 x.ans, .int .u16 x.aft, .int .u16 x.len] 52 rfl)
  have HB0 := Lib.hid (al w (.cells #[.int .u8 x.hub, .int .u8 x.ans, .int .u16 x.aft, .int .u16 x.len] 52))
  go_enter Try.func8, Try.ntmps8
  go_wp2_with fail
  refine (head_any _).mono ?_
  rintro e w1 ⟨rfl, b1⟩
  have B1 := Lib.hid (keep2 b1 HB0.out)
  have HT1 := Lib.hid (HT0.out.step b1)
  clear b1 HB0 HT0
  go_wp2_with fail
  refine (play3 _ T w1 (HL.out.step B1.out) HX.out h60).mono ?_
  rintro e w2 ⟨lv, gv, L, G, now, rfl, hL, hG, hI, hGn, b2⟩
  have HB2 := Lib.hid (keep2 b2 B1.out)
  have HT2 := Lib.hid (HT1.out.step b2)
  have HI := Lib.hid hI
  have HLv := Lib.hid hL
  have hlen := hI.len
  have htim := hI.tim
  obtain ⟨la, lc, rfl⟩ := vos_slice hL
  rw [hlen] at HLv ⊢
  have HLEN := Lib.hid hlen
  obtain ⟨t1, t2⟩ : 0 ≤ now ∧ now ≤ 3932100 := by omega
  clear hL hI b2 hGn hG HT1 B1 hlen htim
  go_wp2_with fail
  go_loop [11, 13] (fun cv i => ∃ (k : Nat) (c : Int), k ≤ 3 ∧ i = .int .i64 k ∧ cv = .int .i64 c ∧ now ≤ c ∧ c ≤ now + 65536 ∧ Hid (∀ j, j < k → (L.getD j zV).u ≤ c)) (fun _ i => 3 - (intOf i).toNat)
  case atStart => exact ⟨0, now, by omega, rfl, rfl, by omega, by omega, fun j hj => absurd hj (by omega)⟩
  case round =>
    obtain ⟨k, c, hk, rfl, rfl, c1, c2, HC⟩ := hrel
    by_cases hlt : k < 3
    · obtain ⟨a2, cap2, hva, -, hcs⟩ := HLv.out
      obtain ⟨b, off, rfl, hcs2⟩ := hcs (by intro h; have := HLEN.out; rw [h] at this; simp at this)
      obtain ⟨rfl, -, rfl⟩ : la = some ⟨b, off, none⟩ ∧ 3 = L.length ∧ lc = cap2 := by simpa using hva
      obtain ⟨-, -, x2⟩ := hcs2 k _ (vo_get (by rw [HLEN.out]; exact hlt))
      have hu := (HI.out.vo k hlt).2.2
      clear hva hcs hcs2
      obtain ⟨y, hy⟩ : ∃ y, (L.getD k zV).u = y := ⟨_, rfl⟩
      rw [hy] at x2 hu
      have HY := Lib.hid hy
      clear hy
      by_cases hcy : c < y
      · have HC2 := Lib.hid (show ∀ j, j < k + 1 → (L.getD j zV).u ≤ y from fun j hj => by
          by_cases e : j = k
          · subst e; rw [HY.out]; omega
          · have := HC.out j (by omega); omega)
        go_wp2
        go_round
        case rel => exact ⟨k + 1, y, by omega, by go_num, rfl, by omega, by omega, HC2⟩
        case measure => simp [intOf]; omega
      · have HC2 := Lib.hid (show ∀ j, j < k + 1 → (L.getD j zV).u ≤ c from fun j hj => by
          by_cases e : j = k
          · subst e; rw [HY.out]; omega
          · exact HC.out j (by omega))
        go_wp2
        go_round
        case rel => exact ⟨k + 1, c, by omega, by go_num, rfl, c1, c2, HC2⟩
        case measure => simp [intOf]; omega
    · obtain rfl : k = 3 := by omega
      have x1 := HT2.out.c 1 rfl
      have xz := HT2.out.2.2
      go_wp2_with fail
      refine (answers_any x.ans 3 _ p3 p4 (by omega)).mono ?_
      rintro e w3 ⟨va, A, rfl, hA, hAn, b3⟩
      have HT3 := Lib.hid (HT2.out.step b3)
      have HB3 := Lib.hid (keep2 b3 HB2.out)
      have HL3 := Lib.hid (HLv.out.step b3)
      have HA3 := Lib.hid hA
      have HAN := Lib.hid hAn
      obtain ⟨aa, ac2, rfl, -, -⟩ := hA
      clear b3 x1 xz HT2 HB2
      rw [hAn]
      rw [hAn] at HA3
      clear hAn
      go_wp2_with fail
      go_loop [15, 16] (fun y i => ∃ k : Nat, k ≤ 3 ∧ i = .int .i64 k ∧ y = .int .i64 (trN A k)) (fun _ i => 3 - (intOf i).toNat)
      case atStart => exact ⟨0, by omega, rfl, rfl⟩
      case round =>
        obtain ⟨k, hk, rfl, rfl⟩ := hrel
        by_cases hlt : k < 3
        · obtain ⟨a3, cap3, hvb, -, hct⟩ := HA3.out
          obtain ⟨rfl, -, rfl⟩ : aa = a3 ∧ 3 = A.length ∧ ac2 = cap3 := by simpa using hvb
          have hlta : k < A.length := by rw [HAN.out]; exact hlt
          obtain ⟨b5, off2, rfl, hct2⟩ := hct (by intro h; rw [h] at hlta; simp at hlta)
          have y0 := hct2 k _ (bo_get hlta)
          have HT := Lib.hid (trN_le A k)
          have HT2 := HT.out
          clear hct hvb hct2 hlta
          cases hA : A.getD k false
          · have HE := Lib.hid (trN_no hA)
            rw [hA] at y0
            clear hA
            go_wp2
            go_round
            case rel => exact ⟨k + 1, by omega, by go_num, by rw [HE.out]⟩
            case measure => simp [intOf]; omega
          · have HE := Lib.hid (trN_yes hA)
            rw [hA] at y0
            clear hA
            go_wp2
            go_round
            case rel => exact ⟨k + 1, by omega, by go_num, by rw [HE.out]; go_num⟩
            case measure => simp [intOf]; omega
        · obtain rfl : k = 3 := by omega
          have HTR := trN_le A 3
          obtain ⟨V, h, f, u, er, hE⟩ := ew_total L A (x.hub % 3) (c + x.aft) (1 + x.len)
          have HP := waits_pure HI.out (by omega) (by omega) h60 HAN.out c1 HC.out c2 p5 p6 ⟨Int.emod_nonneg x.hub (by omega), Int.emod_lt_of_pos x.hub (by omega)⟩ (by omega) (by omega) hE
          have HE := Lib.hid hE
          have HPP := Lib.hid HP
          clear hE HP
          have e1 := Int.emod_nonneg x.hub (show (3 : Int) ≠ 0 by omega)
          have e2 := Int.emod_lt_of_pos x.hub (show (0 : Int) < 3 by omega)
          go_upto_region 21 with fail
          obtain ⟨wq, hwq⟩ : ∃ wq, w3 = wq := ⟨_, rfl⟩
          obtain ⟨bt, hbt⟩ : ∃ bt, w.heap.size = bt := ⟨_, rfl⟩
          have HTB : Hid (Cs wq bt #[.int .u8 x.hub, .int .u8 x.ans, .int .u16 x.aft, .int .u16 x.len]) := by rw [← hwq, ← hbt]; exact HT3
          have HBq : Hid (Below w.heap.size w wq) := by rw [← hwq]; exact HB3
          have HLq : Hid (VosAt wq (.slice la 3 lc) L) := by rw [← hwq]; exact HL3
          have HAq : Hid (BosAt wq (.slice aa 3 ac2) A) := by rw [← hwq]; exact HA3
          rw [hwq]
          clear hwq HT3 HB3 HL3 HA3
          rw [hbt, show ((3 : Nat) : Int) = 3 from rfl]
          obtain ⟨lit, hlit⟩ : ∃ lit : Value → Value → Value → Value → Value → Value → Value → Value → Value → Value → Value → Value → Value → Value → Value → Value → Value → Value → Value → Value → Value → Value → Value → Value → Act, lit = fun v70 v71 v72 v73 v74 v75 v76 v77 v78 v79 v80 v81 v82 v83 v84 v85 v86 v69 v87 v88 v89 v18 v17 v19 => { tmps := #[Value.bool true, Value.slice a T.length cap, Value.agg #[Value.int IntKind.u8 x.hub, Value.int IntKind.u8 x.ans, Value.int IntKind.u16 x.aft, Value.int IntKind.u16 x.len], undef, undef, Value.pointer (some { block := bt, off := 0 }), Value.bool false, Value.bool true, Value.int IntKind.i64 3, Value.slice la 3 lc, gv, Value.int IntKind.i64 c, Value.bool true, Value.int IntKind.i64 3, Value.slice aa 3 ac2, Value.int IntKind.i64 ((trN A 3 : Nat) : Int), Value.int IntKind.i64 3, v17, v18, v19, Value.bool true, Value.slice a T.length cap, Value.int IntKind.i64 (T.length : Int), Value.bool (decide ((60 : Int) < (T.length : Int))), undef, Value.bool true, Value.tuple #[Value.slice la 3 lc, gv, Value.int IntKind.i64 now, Value.bool true], Value.int IntKind.i64 3, Value.slice a T.length cap, Value.tuple #[Value.slice la 3 lc, gv, Value.int IntKind.i64 now, Value.bool true], Value.slice la 3 lc, gv, Value.int IntKind.i64 now, Value.bool true, Value.bool true, Value.bool false, Value.bool false, Value.slice la 3 lc, Value.int IntKind.i64 3, Value.int IntKind.i64 3, Value.bool false, Value.bool false, Value.int IntKind.i64 3, Value.int IntKind.i64 3, Value.bool false, u45, u46, u47, u48, u49, u50, u51, u52, u53, Value.pointer (some { block := bt, off := 1 }), Value.int IntKind.u8 x.ans, Value.int IntKind.i64 3, Value.slice aa 3 ac2, Value.int IntKind.i64 3, Value.int IntKind.i64 3, Value.bool false, u61, u62, u63, u64, u65, u66, u67, u68, v69, v70, v71, v72, v73, v74, v75, v76, v77, v78, v79, v80, v81, v82, v83, v84, v85, v86, v87, v88, v89, undef, undef, undef, undef, undef, undef, undef, undef, undef, undef], defers := [] } := ⟨_, rfl⟩
          have HLIT := Lib.hid hlit
          clear hlit
          refine region_inv (fun bf ac wv => ∃ (m : Nat) (r : Value) (v70 v71 v72 v73 v74 v75 v76 v77 v78 v79 v80 v81 v82 v83 v84 v85 v86 v69 v87 v88 v89 v18 v17 v19 : Value), ac = lit v70 v71 v72 v73 v74 v75 v76 v77 v78 v79 v80 v81 v82 v83 v84 v85 v86 v69 v87 v88 v89 v18 v17 v19 ∧ Rg wq wv m v18 (bf 21) (bf 23) #[.int .i64 h, .int .i64 f, .int .i64 u] ∧ Imp chainW bf ∧ (bf 0 = true → v70 = .slice la 3 lc) ∧ (bf 1 = true → v71 = .slice aa 3 ac2) ∧ (bf 2 = true → v72 = .pointer (some ⟨bt, 0, none⟩)) ∧ (bf 3 = true → v73 = .int .u8 x.hub) ∧ (bf 4 = true → v74 = .int .i64 x.hub) ∧ (bf 5 = true → v75 = .int .i64 3) ∧ (bf 6 = true → v76 = .int .i64 (x.hub % 3)) ∧ (bf 7 = true → v77 = .int .i64 c) ∧ (bf 8 = true → v78 = .pointer (some ⟨bt, 2, none⟩)) ∧ (bf 9 = true → v79 = .int .u16 x.aft) ∧ (bf 10 = true → v80 = .int .i64 x.aft) ∧ (bf 11 = true → v81 = .int .i64 (c + x.aft)) ∧ (bf 12 = true → v82 = .pointer (some ⟨bt, 3, none⟩)) ∧ (bf 13 = true → v83 = .int .u16 x.len) ∧ (bf 14 = true → v84 = .int .i64 x.len) ∧ (bf 15 = true → v85 = .int .i64 (1 + x.len)) ∧ (bf 16 = true → v86 = .tuple #[r, .agg #[.int .i64 h, .int .i64 f, .int .i64 u], .int .i64 er]) ∧ (bf 17 = true → v69 = .tuple #[r, .agg #[.int .i64 h, .int .i64 f, .int .i64 u], .int .i64 er]) ∧ (bf 18 = true → v87 = r) ∧ (bf 19 = true → v88 = .agg #[.int .i64 h, .int .i64 f, .int .i64 u]) ∧ (bf 20 = true → v89 = .int .i64 er) ∧ (bf 22 = true → v17 = r) ∧ (bf 24 = true → v19 = .int .i64 er)) (by kernel_rfl) (by decide +kernel) ?_ ?_ ?_
          · exact ⟨_, .bool false, undef, undef, undef, undef, undef, undef, undef, undef, undef, undef, undef, undef, undef, undef, undef, undef, undef, undef, undef, undef, undef, undef, undef, undef, (by rw [HLIT.out]), Rg.start _ _ _, Imp.start _, (by simp), (by simp), (by simp), (by simp), (by simp), (by simp), (by simp), (by simp), (by simp), (by simp), (by simp), (by simp), (by simp), (by simp), (by simp), (by simp), (by simp), (by simp), (by simp), (by simp), (by simp), (by simp), (by simp)⟩
          · refine ⟨?_, ?_, ?_, ?_, ?_, ?_, ?_, ?_, ?_, ?_, ?_, ?_, ?_, ?_, ?_, ?_, ?_, ?_, ?_, ?_, ?_, ?_, ?_, ?_, ?_, trivial⟩
            · intro bf ac wv hfb haf hJ K' hK
              obtain ⟨m, hJ⟩ := hJ
              obtain ⟨r, hJ⟩ := hJ
              obtain ⟨v70, hJ⟩ := hJ
              obtain ⟨v71, hJ⟩ := hJ
              obtain ⟨v72, hJ⟩ := hJ
              obtain ⟨v73, hJ⟩ := hJ
              obtain ⟨v74, hJ⟩ := hJ
              obtain ⟨v75, hJ⟩ := hJ
              obtain ⟨v76, hJ⟩ := hJ
              obtain ⟨v77, hJ⟩ := hJ
              obtain ⟨v78, hJ⟩ := hJ
              obtain ⟨v79, hJ⟩ := hJ
              obtain ⟨v80, hJ⟩ := hJ
              obtain ⟨v81, hJ⟩ := hJ
              obtain ⟨v82, hJ⟩ := hJ
              obtain ⟨v83, hJ⟩ := hJ
              obtain ⟨v84, hJ⟩ := hJ
              obtain ⟨v85, hJ⟩ := hJ
              obtain ⟨v86, hJ⟩ := hJ
              obtain ⟨v69, hJ⟩ := hJ
              obtain ⟨v87, hJ⟩ := hJ
              obtain ⟨v88, hJ⟩ := hJ
              obtain ⟨v89, hJ⟩ := hJ
              obtain ⟨v18, hJ⟩ := hJ
              obtain ⟨v17, hJ⟩ := hJ
              obtain ⟨v19, hJ⟩ := hJ
              obtain ⟨rfl, hJ⟩ := hJ
              obtain ⟨hM, hJ⟩ := hJ
              obtain ⟨hI, hJ⟩ := hJ
              obtain ⟨g0, hJ⟩ := hJ
              obtain ⟨g1, hJ⟩ := hJ
              obtain ⟨g2, hJ⟩ := hJ
              obtain ⟨g3, hJ⟩ := hJ
              obtain ⟨g4, hJ⟩ := hJ
              obtain ⟨g5, hJ⟩ := hJ
              obtain ⟨g6, hJ⟩ := hJ
              obtain ⟨g7, hJ⟩ := hJ
              obtain ⟨g8, hJ⟩ := hJ
              obtain ⟨g9, hJ⟩ := hJ
              obtain ⟨g10, hJ⟩ := hJ
              obtain ⟨g11, hJ⟩ := hJ
              obtain ⟨g12, hJ⟩ := hJ
              obtain ⟨g13, hJ⟩ := hJ
              obtain ⟨g14, hJ⟩ := hJ
              obtain ⟨g15, hJ⟩ := hJ
              obtain ⟨g16, hJ⟩ := hJ
              obtain ⟨g17, hJ⟩ := hJ
              obtain ⟨g18, hJ⟩ := hJ
              obtain ⟨g19, hJ⟩ := hJ
              obtain ⟨g20, hJ⟩ := hJ
              obtain ⟨g22, hJ⟩ := hJ
              have g24 := hJ
              clear hJ
              replace hK := Lib.hid hK
              replace hM := Lib.hid hM
              replace hI := Lib.hid hI
              replace hfb := Lib.hid hfb
              replace g0 := Lib.hid g0
              replace g1 := Lib.hid g1
              replace g2 := Lib.hid g2
              replace g3 := Lib.hid g3
              replace g4 := Lib.hid g4
              replace g5 := Lib.hid g5
              replace g6 := Lib.hid g6
              replace g7 := Lib.hid g7
              replace g8 := Lib.hid g8
              replace g9 := Lib.hid g9
              replace g10 := Lib.hid g10
              replace g11 := Lib.hid g11
              replace g12 := Lib.hid g12
              replace g13 := Lib.hid g13
              replace g14 := Lib.hid g14
              replace g15 := Lib.hid g15
              replace g16 := Lib.hid g16
              replace g17 := Lib.hid g17
              replace g18 := Lib.hid g18
              replace g19 := Lib.hid g19
              replace g20 := Lib.hid g20
              replace g22 := Lib.hid g22
              replace g24 := Lib.hid g24
              clear haf
              rw [HLIT.out]
              go_simp
              exact hK.out _ _ ⟨m, r, .slice la 3 lc, v71, v72, v73, v74, v75, v76, v77, v78, v79, v80, v81, v82, v83, v84, v85, v86, v69, v87, v88, v89, v18, v17, v19, (by rw [HLIT.out]), hM.out, (imp_free 0 hI.out (by decide)), fun _ => rfl, g1.out, g2.out, g3.out, g4.out, g5.out, g6.out, g7.out, g8.out, g9.out, g10.out, g11.out, g12.out, g13.out, g14.out, g15.out, g16.out, g17.out, g18.out, g19.out, g20.out, g22.out, g24.out⟩
            · intro bf ac wv hfb haf hJ K' hK
              obtain ⟨m, hJ⟩ := hJ
              obtain ⟨r, hJ⟩ := hJ
              obtain ⟨v70, hJ⟩ := hJ
              obtain ⟨v71, hJ⟩ := hJ
              obtain ⟨v72, hJ⟩ := hJ
              obtain ⟨v73, hJ⟩ := hJ
              obtain ⟨v74, hJ⟩ := hJ
              obtain ⟨v75, hJ⟩ := hJ
              obtain ⟨v76, hJ⟩ := hJ
              obtain ⟨v77, hJ⟩ := hJ
              obtain ⟨v78, hJ⟩ := hJ
              obtain ⟨v79, hJ⟩ := hJ
              obtain ⟨v80, hJ⟩ := hJ
              obtain ⟨v81, hJ⟩ := hJ
              obtain ⟨v82, hJ⟩ := hJ
              obtain ⟨v83, hJ⟩ := hJ
              obtain ⟨v84, hJ⟩ := hJ
              obtain ⟨v85, hJ⟩ := hJ
              obtain ⟨v86, hJ⟩ := hJ
              obtain ⟨v69, hJ⟩ := hJ
              obtain ⟨v87, hJ⟩ := hJ
              obtain ⟨v88, hJ⟩ := hJ
              obtain ⟨v89, hJ⟩ := hJ
              obtain ⟨v18, hJ⟩ := hJ
              obtain ⟨v17, hJ⟩ := hJ
              obtain ⟨v19, hJ⟩ := hJ
              obtain ⟨rfl, hJ⟩ := hJ
              obtain ⟨hM, hJ⟩ := hJ
              obtain ⟨hI, hJ⟩ := hJ
              obtain ⟨g0, hJ⟩ := hJ
              obtain ⟨g1, hJ⟩ := hJ
              obtain ⟨g2, hJ⟩ := hJ
              obtain ⟨g3, hJ⟩ := hJ
              obtain ⟨g4, hJ⟩ := hJ
              obtain ⟨g5, hJ⟩ := hJ
              obtain ⟨g6, hJ⟩ := hJ
              obtain ⟨g7, hJ⟩ := hJ
              obtain ⟨g8, hJ⟩ := hJ
              obtain ⟨g9, hJ⟩ := hJ
              obtain ⟨g10, hJ⟩ := hJ
              obtain ⟨g11, hJ⟩ := hJ
              obtain ⟨g12, hJ⟩ := hJ
              obtain ⟨g13, hJ⟩ := hJ
              obtain ⟨g14, hJ⟩ := hJ
              obtain ⟨g15, hJ⟩ := hJ
              obtain ⟨g16, hJ⟩ := hJ
              obtain ⟨g17, hJ⟩ := hJ
              obtain ⟨g18, hJ⟩ := hJ
              obtain ⟨g19, hJ⟩ := hJ
              obtain ⟨g20, hJ⟩ := hJ
              obtain ⟨g22, hJ⟩ := hJ
              have g24 := hJ
              clear hJ
              replace hK := Lib.hid hK
              replace hM := Lib.hid hM
              replace hI := Lib.hid hI
              replace hfb := Lib.hid hfb
              replace g0 := Lib.hid g0
              replace g1 := Lib.hid g1
              replace g2 := Lib.hid g2
              replace g3 := Lib.hid g3
              replace g4 := Lib.hid g4
              replace g5 := Lib.hid g5
              replace g6 := Lib.hid g6
              replace g7 := Lib.hid g7
              replace g8 := Lib.hid g8
              replace g9 := Lib.hid g9
              replace g10 := Lib.hid g10
              replace g11 := Lib.hid g11
              replace g12 := Lib.hid g12
              replace g13 := Lib.hid g13
              replace g14 := Lib.hid g14
              replace g15 := Lib.hid g15
              replace g16 := Lib.hid g16
              replace g17 := Lib.hid g17
              replace g18 := Lib.hid g18
              replace g19 := Lib.hid g19
              replace g20 := Lib.hid g20
              replace g22 := Lib.hid g22
              replace g24 := Lib.hid g24
              clear haf
              rw [HLIT.out]
              go_simp
              exact hK.out _ _ ⟨m, r, v70, .slice aa 3 ac2, v72, v73, v74, v75, v76, v77, v78, v79, v80, v81, v82, v83, v84, v85, v86, v69, v87, v88, v89, v18, v17, v19, (by rw [HLIT.out]), hM.out, (imp_free 1 hI.out (by decide)), g0.out, fun _ => rfl, g2.out, g3.out, g4.out, g5.out, g6.out, g7.out, g8.out, g9.out, g10.out, g11.out, g12.out, g13.out, g14.out, g15.out, g16.out, g17.out, g18.out, g19.out, g20.out, g22.out, g24.out⟩
            · intro bf ac wv hfb haf hJ K' hK
              obtain ⟨m, hJ⟩ := hJ
              obtain ⟨r, hJ⟩ := hJ
              obtain ⟨v70, hJ⟩ := hJ
              obtain ⟨v71, hJ⟩ := hJ
              obtain ⟨v72, hJ⟩ := hJ
              obtain ⟨v73, hJ⟩ := hJ
              obtain ⟨v74, hJ⟩ := hJ
              obtain ⟨v75, hJ⟩ := hJ
              obtain ⟨v76, hJ⟩ := hJ
              obtain ⟨v77, hJ⟩ := hJ
              obtain ⟨v78, hJ⟩ := hJ
              obtain ⟨v79, hJ⟩ := hJ
              obtain ⟨v80, hJ⟩ := hJ
              obtain ⟨v81, hJ⟩ := hJ
              obtain ⟨v82, hJ⟩ := hJ
              obtain ⟨v83, hJ⟩ := hJ
              obtain ⟨v84, hJ⟩ := hJ
              obtain ⟨v85, hJ⟩ := hJ
              obtain ⟨v86, hJ⟩ := hJ
              obtain ⟨v69, hJ⟩ := hJ
              obtain ⟨v87, hJ⟩ := hJ
              obtain ⟨v88, hJ⟩ := hJ
              obtain ⟨v89, hJ⟩ := hJ
              obtain ⟨v18, hJ⟩ := hJ
              obtain ⟨v17, hJ⟩ := hJ
              obtain ⟨v19, hJ⟩ := hJ
              obtain ⟨rfl, hJ⟩ := hJ
              obtain ⟨hM, hJ⟩ := hJ
              obtain ⟨hI, hJ⟩ := hJ
              obtain ⟨g0, hJ⟩ := hJ
              obtain ⟨g1, hJ⟩ := hJ
              obtain ⟨g2, hJ⟩ := hJ
              obtain ⟨g3, hJ⟩ := hJ
              obtain ⟨g4, hJ⟩ := hJ
              obtain ⟨g5, hJ⟩ := hJ
              obtain ⟨g6, hJ⟩ := hJ
              obtain ⟨g7, hJ⟩ := hJ
              obtain ⟨g8, hJ⟩ := hJ
              obtain ⟨g9, hJ⟩ := hJ
              obtain ⟨g10, hJ⟩ := hJ
              obtain ⟨g11, hJ⟩ := hJ
              obtain ⟨g12, hJ⟩ := hJ
              obtain ⟨g13, hJ⟩ := hJ
              obtain ⟨g14, hJ⟩ := hJ
              obtain ⟨g15, hJ⟩ := hJ
              obtain ⟨g16, hJ⟩ := hJ
              obtain ⟨g17, hJ⟩ := hJ
              obtain ⟨g18, hJ⟩ := hJ
              obtain ⟨g19, hJ⟩ := hJ
              obtain ⟨g20, hJ⟩ := hJ
              obtain ⟨g22, hJ⟩ := hJ
              have g24 := hJ
              clear hJ
              replace hK := Lib.hid hK
              replace hM := Lib.hid hM
              replace hI := Lib.hid hI
              replace hfb := Lib.hid hfb
              replace g0 := Lib.hid g0
              replace g1 := Lib.hid g1
              replace g2 := Lib.hid g2
              replace g3 := Lib.hid g3
              replace g4 := Lib.hid g4
              replace g5 := Lib.hid g5
              replace g6 := Lib.hid g6
              replace g7 := Lib.hid g7
              replace g8 := Lib.hid g8
              replace g9 := Lib.hid g9
              replace g10 := Lib.hid g10
              replace g11 := Lib.hid g11
              replace g12 := Lib.hid g12
              replace g13 := Lib.hid g13
              replace g14 := Lib.hid g14
              replace g15 := Lib.hid g15
              replace g16 := Lib.hid g16
              replace g17 := Lib.hid g17
              replace g18 := Lib.hid g18
              replace g19 := Lib.hid g19
              replace g20 := Lib.hid g20
              replace g22 := Lib.hid g22
              replace g24 := Lib.hid g24
              clear haf
              rw [HLIT.out]
              go_simp
              exact hK.out _ _ ⟨m, r, v70, v71, .pointer (some ⟨bt, 0, none⟩), v73, v74, v75, v76, v77, v78, v79, v80, v81, v82, v83, v84, v85, v86, v69, v87, v88, v89, v18, v17, v19, (by rw [HLIT.out]), hM.out, (imp_free 2 hI.out (by decide)), g0.out, g1.out, fun _ => rfl, g3.out, g4.out, g5.out, g6.out, g7.out, g8.out, g9.out, g10.out, g11.out, g12.out, g13.out, g14.out, g15.out, g16.out, g17.out, g18.out, g19.out, g20.out, g22.out, g24.out⟩
            · intro bf ac wv hfb haf hJ K' hK
              obtain ⟨m, hJ⟩ := hJ
              obtain ⟨r, hJ⟩ := hJ
              obtain ⟨v70, hJ⟩ := hJ
              obtain ⟨v71, hJ⟩ := hJ
              obtain ⟨v72, hJ⟩ := hJ
              obtain ⟨v73, hJ⟩ := hJ
              obtain ⟨v74, hJ⟩ := hJ
              obtain ⟨v75, hJ⟩ := hJ
              obtain ⟨v76, hJ⟩ := hJ
              obtain ⟨v77, hJ⟩ := hJ
              obtain ⟨v78, hJ⟩ := hJ
              obtain ⟨v79, hJ⟩ := hJ
              obtain ⟨v80, hJ⟩ := hJ
              obtain ⟨v81, hJ⟩ := hJ
              obtain ⟨v82, hJ⟩ := hJ
              obtain ⟨v83, hJ⟩ := hJ
              obtain ⟨v84, hJ⟩ := hJ
              obtain ⟨v85, hJ⟩ := hJ
              obtain ⟨v86, hJ⟩ := hJ
              obtain ⟨v69, hJ⟩ := hJ
              obtain ⟨v87, hJ⟩ := hJ
              obtain ⟨v88, hJ⟩ := hJ
              obtain ⟨v89, hJ⟩ := hJ
              obtain ⟨v18, hJ⟩ := hJ
              obtain ⟨v17, hJ⟩ := hJ
              obtain ⟨v19, hJ⟩ := hJ
              obtain ⟨rfl, hJ⟩ := hJ
              obtain ⟨hM, hJ⟩ := hJ
              obtain ⟨hI, hJ⟩ := hJ
              obtain ⟨g0, hJ⟩ := hJ
              obtain ⟨g1, hJ⟩ := hJ
              obtain ⟨g2, hJ⟩ := hJ
              obtain ⟨g3, hJ⟩ := hJ
              obtain ⟨g4, hJ⟩ := hJ
              obtain ⟨g5, hJ⟩ := hJ
              obtain ⟨g6, hJ⟩ := hJ
              obtain ⟨g7, hJ⟩ := hJ
              obtain ⟨g8, hJ⟩ := hJ
              obtain ⟨g9, hJ⟩ := hJ
              obtain ⟨g10, hJ⟩ := hJ
              obtain ⟨g11, hJ⟩ := hJ
              obtain ⟨g12, hJ⟩ := hJ
              obtain ⟨g13, hJ⟩ := hJ
              obtain ⟨g14, hJ⟩ := hJ
              obtain ⟨g15, hJ⟩ := hJ
              obtain ⟨g16, hJ⟩ := hJ
              obtain ⟨g17, hJ⟩ := hJ
              obtain ⟨g18, hJ⟩ := hJ
              obtain ⟨g19, hJ⟩ := hJ
              obtain ⟨g20, hJ⟩ := hJ
              obtain ⟨g22, hJ⟩ := hJ
              have g24 := hJ
              clear hJ
              replace hK := Lib.hid hK
              replace hM := Lib.hid hM
              replace hI := Lib.hid hI
              replace hfb := Lib.hid hfb
              replace g0 := Lib.hid g0
              replace g1 := Lib.hid g1
              replace g2 := Lib.hid g2
              replace g3 := Lib.hid g3
              replace g4 := Lib.hid g4
              replace g5 := Lib.hid g5
              replace g6 := Lib.hid g6
              replace g7 := Lib.hid g7
              replace g8 := Lib.hid g8
              replace g9 := Lib.hid g9
              replace g10 := Lib.hid g10
              replace g11 := Lib.hid g11
              replace g12 := Lib.hid g12
              replace g13 := Lib.hid g13
              replace g14 := Lib.hid g14
              replace g15 := Lib.hid g15
              replace g16 := Lib.hid g16
              replace g17 := Lib.hid g17
              replace g18 := Lib.hid g18
              replace g19 := Lib.hid g19
              replace g20 := Lib.hid g20
              replace g22 := Lib.hid g22
              replace g24 := Lib.hid g24
              simp [Region.binds] at haf
              have hb2 := Lib.hid (show bf 2 = true by simp [haf])
              clear haf
              obtain rfl := (g2.out hb2.out).symm
              rw [HLIT.out]
              have hA := HTB.out.step hM.out.below
              have xA := hA.c 0 rfl
              have zA := hA.2.2
              clear hA
              go_simp
              exact hK.out _ _ ⟨m, r, v70, v71, .pointer (some ⟨bt, 0, none⟩), .int .u8 x.hub, v74, v75, v76, v77, v78, v79, v80, v81, v82, v83, v84, v85, v86, v69, v87, v88, v89, v18, v17, v19, (by rw [HLIT.out]), hM.out, (imp_free 3 hI.out (by decide)), g0.out, g1.out, g2.out, fun _ => rfl, g4.out, g5.out, g6.out, g7.out, g8.out, g9.out, g10.out, g11.out, g12.out, g13.out, g14.out, g15.out, g16.out, g17.out, g18.out, g19.out, g20.out, g22.out, g24.out⟩
            · intro bf ac wv hfb haf hJ K' hK
              obtain ⟨m, hJ⟩ := hJ
              obtain ⟨r, hJ⟩ := hJ
              obtain ⟨v70, hJ⟩ := hJ
              obtain ⟨v71, hJ⟩ := hJ
              obtain ⟨v72, hJ⟩ := hJ
              obtain ⟨v73, hJ⟩ := hJ
              obtain ⟨v74, hJ⟩ := hJ
              obtain ⟨v75, hJ⟩ := hJ
              obtain ⟨v76, hJ⟩ := hJ
              obtain ⟨v77, hJ⟩ := hJ
              obtain ⟨v78, hJ⟩ := hJ
              obtain ⟨v79, hJ⟩ := hJ
              obtain ⟨v80, hJ⟩ := hJ
              obtain ⟨v81, hJ⟩ := hJ
              obtain ⟨v82, hJ⟩ := hJ
              obtain ⟨v83, hJ⟩ := hJ
              obtain ⟨v84, hJ⟩ := hJ
              obtain ⟨v85, hJ⟩ := hJ
              obtain ⟨v86, hJ⟩ := hJ
              obtain ⟨v69, hJ⟩ := hJ
              obtain ⟨v87, hJ⟩ := hJ
              obtain ⟨v88, hJ⟩ := hJ
              obtain ⟨v89, hJ⟩ := hJ
              obtain ⟨v18, hJ⟩ := hJ
              obtain ⟨v17, hJ⟩ := hJ
              obtain ⟨v19, hJ⟩ := hJ
              obtain ⟨rfl, hJ⟩ := hJ
              obtain ⟨hM, hJ⟩ := hJ
              obtain ⟨hI, hJ⟩ := hJ
              obtain ⟨g0, hJ⟩ := hJ
              obtain ⟨g1, hJ⟩ := hJ
              obtain ⟨g2, hJ⟩ := hJ
              obtain ⟨g3, hJ⟩ := hJ
              obtain ⟨g4, hJ⟩ := hJ
              obtain ⟨g5, hJ⟩ := hJ
              obtain ⟨g6, hJ⟩ := hJ
              obtain ⟨g7, hJ⟩ := hJ
              obtain ⟨g8, hJ⟩ := hJ
              obtain ⟨g9, hJ⟩ := hJ
              obtain ⟨g10, hJ⟩ := hJ
              obtain ⟨g11, hJ⟩ := hJ
              obtain ⟨g12, hJ⟩ := hJ
              obtain ⟨g13, hJ⟩ := hJ
              obtain ⟨g14, hJ⟩ := hJ
              obtain ⟨g15, hJ⟩ := hJ
              obtain ⟨g16, hJ⟩ := hJ
              obtain ⟨g17, hJ⟩ := hJ
              obtain ⟨g18, hJ⟩ := hJ
              obtain ⟨g19, hJ⟩ := hJ
              obtain ⟨g20, hJ⟩ := hJ
              obtain ⟨g22, hJ⟩ := hJ
              have g24 := hJ
              clear hJ
              replace hK := Lib.hid hK
              replace hM := Lib.hid hM
              replace hI := Lib.hid hI
              replace hfb := Lib.hid hfb
              replace g0 := Lib.hid g0
              replace g1 := Lib.hid g1
              replace g2 := Lib.hid g2
              replace g3 := Lib.hid g3
              replace g4 := Lib.hid g4
              replace g5 := Lib.hid g5
              replace g6 := Lib.hid g6
              replace g7 := Lib.hid g7
              replace g8 := Lib.hid g8
              replace g9 := Lib.hid g9
              replace g10 := Lib.hid g10
              replace g11 := Lib.hid g11
              replace g12 := Lib.hid g12
              replace g13 := Lib.hid g13
              replace g14 := Lib.hid g14
              replace g15 := Lib.hid g15
              replace g16 := Lib.hid g16
              replace g17 := Lib.hid g17
              replace g18 := Lib.hid g18
              replace g19 := Lib.hid g19
              replace g20 := Lib.hid g20
              replace g22 := Lib.hid g22
              replace g24 := Lib.hid g24
              simp [Region.binds] at haf
              have hb3 := Lib.hid (show bf 3 = true by simp [haf])
              clear haf
              obtain rfl := (g3.out hb3.out).symm
              rw [HLIT.out]
              have q1 : IntKind.i64.wrap x.hub = x.hub := IntWalk.i64_in _ (by omega)
              go_simp
              exact hK.out _ _ ⟨m, r, v70, v71, v72, .int .u8 x.hub, .int .i64 x.hub, v75, v76, v77, v78, v79, v80, v81, v82, v83, v84, v85, v86, v69, v87, v88, v89, v18, v17, v19, (by rw [HLIT.out]), hM.out, (imp_free 4 hI.out (by decide)), g0.out, g1.out, g2.out, g3.out, fun _ => rfl, g5.out, g6.out, g7.out, g8.out, g9.out, g10.out, g11.out, g12.out, g13.out, g14.out, g15.out, g16.out, g17.out, g18.out, g19.out, g20.out, g22.out, g24.out⟩
            · intro bf ac wv hfb haf hJ K' hK
              obtain ⟨m, hJ⟩ := hJ
              obtain ⟨r, hJ⟩ := hJ
              obtain ⟨v70, hJ⟩ := hJ
              obtain ⟨v71, hJ⟩ := hJ
              obtain ⟨v72, hJ⟩ := hJ
              obtain ⟨v73, hJ⟩ := hJ
              obtain ⟨v74, hJ⟩ := hJ
              obtain ⟨v75, hJ⟩ := hJ
              obtain ⟨v76, hJ⟩ := hJ
              obtain ⟨v77, hJ⟩ := hJ
              obtain ⟨v78, hJ⟩ := hJ
              obtain ⟨v79, hJ⟩ := hJ
              obtain ⟨v80, hJ⟩ := hJ
              obtain ⟨v81, hJ⟩ := hJ
              obtain ⟨v82, hJ⟩ := hJ
              obtain ⟨v83, hJ⟩ := hJ
              obtain ⟨v84, hJ⟩ := hJ
              obtain ⟨v85, hJ⟩ := hJ
              obtain ⟨v86, hJ⟩ := hJ
              obtain ⟨v69, hJ⟩ := hJ
              obtain ⟨v87, hJ⟩ := hJ
              obtain ⟨v88, hJ⟩ := hJ
              obtain ⟨v89, hJ⟩ := hJ
              obtain ⟨v18, hJ⟩ := hJ
              obtain ⟨v17, hJ⟩ := hJ
              obtain ⟨v19, hJ⟩ := hJ
              obtain ⟨rfl, hJ⟩ := hJ
              obtain ⟨hM, hJ⟩ := hJ
              obtain ⟨hI, hJ⟩ := hJ
              obtain ⟨g0, hJ⟩ := hJ
              obtain ⟨g1, hJ⟩ := hJ
              obtain ⟨g2, hJ⟩ := hJ
              obtain ⟨g3, hJ⟩ := hJ
              obtain ⟨g4, hJ⟩ := hJ
              obtain ⟨g5, hJ⟩ := hJ
              obtain ⟨g6, hJ⟩ := hJ
              obtain ⟨g7, hJ⟩ := hJ
              obtain ⟨g8, hJ⟩ := hJ
              obtain ⟨g9, hJ⟩ := hJ
              obtain ⟨g10, hJ⟩ := hJ
              obtain ⟨g11, hJ⟩ := hJ
              obtain ⟨g12, hJ⟩ := hJ
              obtain ⟨g13, hJ⟩ := hJ
              obtain ⟨g14, hJ⟩ := hJ
              obtain ⟨g15, hJ⟩ := hJ
              obtain ⟨g16, hJ⟩ := hJ
              obtain ⟨g17, hJ⟩ := hJ
              obtain ⟨g18, hJ⟩ := hJ
              obtain ⟨g19, hJ⟩ := hJ
              obtain ⟨g20, hJ⟩ := hJ
              obtain ⟨g22, hJ⟩ := hJ
              have g24 := hJ
              clear hJ
              replace hK := Lib.hid hK
              replace hM := Lib.hid hM
              replace hI := Lib.hid hI
              replace hfb := Lib.hid hfb
              replace g0 := Lib.hid g0
              replace g1 := Lib.hid g1
              replace g2 := Lib.hid g2
              replace g3 := Lib.hid g3
              replace g4 := Lib.hid g4
              replace g5 := Lib.hid g5
              replace g6 := Lib.hid g6
              replace g7 := Lib.hid g7
              replace g8 := Lib.hid g8
              replace g9 := Lib.hid g9
              replace g10 := Lib.hid g10
              replace g11 := Lib.hid g11
              replace g12 := Lib.hid g12
              replace g13 := Lib.hid g13
              replace g14 := Lib.hid g14
              replace g15 := Lib.hid g15
              replace g16 := Lib.hid g16
              replace g17 := Lib.hid g17
              replace g18 := Lib.hid g18
              replace g19 := Lib.hid g19
              replace g20 := Lib.hid g20
              replace g22 := Lib.hid g22
              replace g24 := Lib.hid g24
              clear haf
              rw [HLIT.out]
              go_simp
              exact hK.out _ _ ⟨m, r, v70, v71, v72, v73, v74, .int .i64 3, v76, v77, v78, v79, v80, v81, v82, v83, v84, v85, v86, v69, v87, v88, v89, v18, v17, v19, (by rw [HLIT.out]), hM.out, (imp_free 5 hI.out (by decide)), g0.out, g1.out, g2.out, g3.out, g4.out, fun _ => rfl, g6.out, g7.out, g8.out, g9.out, g10.out, g11.out, g12.out, g13.out, g14.out, g15.out, g16.out, g17.out, g18.out, g19.out, g20.out, g22.out, g24.out⟩
            · intro bf ac wv hfb haf hJ K' hK
              obtain ⟨m, hJ⟩ := hJ
              obtain ⟨r, hJ⟩ := hJ
              obtain ⟨v70, hJ⟩ := hJ
              obtain ⟨v71, hJ⟩ := hJ
              obtain ⟨v72, hJ⟩ := hJ
              obtain ⟨v73, hJ⟩ := hJ
              obtain ⟨v74, hJ⟩ := hJ
              obtain ⟨v75, hJ⟩ := hJ
              obtain ⟨v76, hJ⟩ := hJ
              obtain ⟨v77, hJ⟩ := hJ
              obtain ⟨v78, hJ⟩ := hJ
              obtain ⟨v79, hJ⟩ := hJ
              obtain ⟨v80, hJ⟩ := hJ
              obtain ⟨v81, hJ⟩ := hJ
              obtain ⟨v82, hJ⟩ := hJ
              obtain ⟨v83, hJ⟩ := hJ
              obtain ⟨v84, hJ⟩ := hJ
              obtain ⟨v85, hJ⟩ := hJ
              obtain ⟨v86, hJ⟩ := hJ
              obtain ⟨v69, hJ⟩ := hJ
              obtain ⟨v87, hJ⟩ := hJ
              obtain ⟨v88, hJ⟩ := hJ
              obtain ⟨v89, hJ⟩ := hJ
              obtain ⟨v18, hJ⟩ := hJ
              obtain ⟨v17, hJ⟩ := hJ
              obtain ⟨v19, hJ⟩ := hJ
              obtain ⟨rfl, hJ⟩ := hJ
              obtain ⟨hM, hJ⟩ := hJ
              obtain ⟨hI, hJ⟩ := hJ
              obtain ⟨g0, hJ⟩ := hJ
              obtain ⟨g1, hJ⟩ := hJ
              obtain ⟨g2, hJ⟩ := hJ
              obtain ⟨g3, hJ⟩ := hJ
              obtain ⟨g4, hJ⟩ := hJ
              obtain ⟨g5, hJ⟩ := hJ
              obtain ⟨g6, hJ⟩ := hJ
              obtain ⟨g7, hJ⟩ := hJ
              obtain ⟨g8, hJ⟩ := hJ
              obtain ⟨g9, hJ⟩ := hJ
              obtain ⟨g10, hJ⟩ := hJ
              obtain ⟨g11, hJ⟩ := hJ
              obtain ⟨g12, hJ⟩ := hJ
              obtain ⟨g13, hJ⟩ := hJ
              obtain ⟨g14, hJ⟩ := hJ
              obtain ⟨g15, hJ⟩ := hJ
              obtain ⟨g16, hJ⟩ := hJ
              obtain ⟨g17, hJ⟩ := hJ
              obtain ⟨g18, hJ⟩ := hJ
              obtain ⟨g19, hJ⟩ := hJ
              obtain ⟨g20, hJ⟩ := hJ
              obtain ⟨g22, hJ⟩ := hJ
              have g24 := hJ
              clear hJ
              replace hK := Lib.hid hK
              replace hM := Lib.hid hM
              replace hI := Lib.hid hI
              replace hfb := Lib.hid hfb
              replace g0 := Lib.hid g0
              replace g1 := Lib.hid g1
              replace g2 := Lib.hid g2
              replace g3 := Lib.hid g3
              replace g4 := Lib.hid g4
              replace g5 := Lib.hid g5
              replace g6 := Lib.hid g6
              replace g7 := Lib.hid g7
              replace g8 := Lib.hid g8
              replace g9 := Lib.hid g9
              replace g10 := Lib.hid g10
              replace g11 := Lib.hid g11
              replace g12 := Lib.hid g12
              replace g13 := Lib.hid g13
              replace g14 := Lib.hid g14
              replace g15 := Lib.hid g15
              replace g16 := Lib.hid g16
              replace g17 := Lib.hid g17
              replace g18 := Lib.hid g18
              replace g19 := Lib.hid g19
              replace g20 := Lib.hid g20
              replace g22 := Lib.hid g22
              replace g24 := Lib.hid g24
              simp [Region.binds] at haf
              have hb4 := Lib.hid (show bf 4 = true by simp [haf])
              have hb5 := Lib.hid (show bf 5 = true by simp [haf])
              clear haf
              obtain rfl := (g4.out hb4.out).symm
              obtain rfl := (g5.out hb5.out).symm
              rw [HLIT.out]
              have q1 : x.hub.tmod 3 = x.hub % 3 := Int.tmod_eq_emod_of_nonneg p1
              have q2 : IntKind.i64.wrap (x.hub % 3) = x.hub % 3 := IntWalk.i64_in _ (by omega)
              go_simp
              exact hK.out _ _ ⟨m, r, v70, v71, v72, v73, .int .i64 x.hub, .int .i64 3, .int .i64 (x.hub % 3), v77, v78, v79, v80, v81, v82, v83, v84, v85, v86, v69, v87, v88, v89, v18, v17, v19, (by rw [HLIT.out]), hM.out, (imp_free 6 hI.out (by decide)), g0.out, g1.out, g2.out, g3.out, g4.out, g5.out, fun _ => rfl, g7.out, g8.out, g9.out, g10.out, g11.out, g12.out, g13.out, g14.out, g15.out, g16.out, g17.out, g18.out, g19.out, g20.out, g22.out, g24.out⟩
            · intro bf ac wv hfb haf hJ K' hK
              obtain ⟨m, hJ⟩ := hJ
              obtain ⟨r, hJ⟩ := hJ
              obtain ⟨v70, hJ⟩ := hJ
              obtain ⟨v71, hJ⟩ := hJ
              obtain ⟨v72, hJ⟩ := hJ
              obtain ⟨v73, hJ⟩ := hJ
              obtain ⟨v74, hJ⟩ := hJ
              obtain ⟨v75, hJ⟩ := hJ
              obtain ⟨v76, hJ⟩ := hJ
              obtain ⟨v77, hJ⟩ := hJ
              obtain ⟨v78, hJ⟩ := hJ
              obtain ⟨v79, hJ⟩ := hJ
              obtain ⟨v80, hJ⟩ := hJ
              obtain ⟨v81, hJ⟩ := hJ
              obtain ⟨v82, hJ⟩ := hJ
              obtain ⟨v83, hJ⟩ := hJ
              obtain ⟨v84, hJ⟩ := hJ
              obtain ⟨v85, hJ⟩ := hJ
              obtain ⟨v86, hJ⟩ := hJ
              obtain ⟨v69, hJ⟩ := hJ
              obtain ⟨v87, hJ⟩ := hJ
              obtain ⟨v88, hJ⟩ := hJ
              obtain ⟨v89, hJ⟩ := hJ
              obtain ⟨v18, hJ⟩ := hJ
              obtain ⟨v17, hJ⟩ := hJ
              obtain ⟨v19, hJ⟩ := hJ
              obtain ⟨rfl, hJ⟩ := hJ
              obtain ⟨hM, hJ⟩ := hJ
              obtain ⟨hI, hJ⟩ := hJ
              obtain ⟨g0, hJ⟩ := hJ
              obtain ⟨g1, hJ⟩ := hJ
              obtain ⟨g2, hJ⟩ := hJ
              obtain ⟨g3, hJ⟩ := hJ
              obtain ⟨g4, hJ⟩ := hJ
              obtain ⟨g5, hJ⟩ := hJ
              obtain ⟨g6, hJ⟩ := hJ
              obtain ⟨g7, hJ⟩ := hJ
              obtain ⟨g8, hJ⟩ := hJ
              obtain ⟨g9, hJ⟩ := hJ
              obtain ⟨g10, hJ⟩ := hJ
              obtain ⟨g11, hJ⟩ := hJ
              obtain ⟨g12, hJ⟩ := hJ
              obtain ⟨g13, hJ⟩ := hJ
              obtain ⟨g14, hJ⟩ := hJ
              obtain ⟨g15, hJ⟩ := hJ
              obtain ⟨g16, hJ⟩ := hJ
              obtain ⟨g17, hJ⟩ := hJ
              obtain ⟨g18, hJ⟩ := hJ
              obtain ⟨g19, hJ⟩ := hJ
              obtain ⟨g20, hJ⟩ := hJ
              obtain ⟨g22, hJ⟩ := hJ
              have g24 := hJ
              clear hJ
              replace hK := Lib.hid hK
              replace hM := Lib.hid hM
              replace hI := Lib.hid hI
              replace hfb := Lib.hid hfb
              replace g0 := Lib.hid g0
              replace g1 := Lib.hid g1
              replace g2 := Lib.hid g2
              replace g3 := Lib.hid g3
              replace g4 := Lib.hid g4
              replace g5 := Lib.hid g5
              replace g6 := Lib.hid g6
              replace g7 := Lib.hid g7
              replace g8 := Lib.hid g8
              replace g9 := Lib.hid g9
              replace g10 := Lib.hid g10
              replace g11 := Lib.hid g11
              replace g12 := Lib.hid g12
              replace g13 := Lib.hid g13
              replace g14 := Lib.hid g14
              replace g15 := Lib.hid g15
              replace g16 := Lib.hid g16
              replace g17 := Lib.hid g17
              replace g18 := Lib.hid g18
              replace g19 := Lib.hid g19
              replace g20 := Lib.hid g20
              replace g22 := Lib.hid g22
              replace g24 := Lib.hid g24
              clear haf
              rw [HLIT.out]
              go_simp
              exact hK.out _ _ ⟨m, r, v70, v71, v72, v73, v74, v75, v76, .int .i64 c, v78, v79, v80, v81, v82, v83, v84, v85, v86, v69, v87, v88, v89, v18, v17, v19, (by rw [HLIT.out]), hM.out, (imp_free 7 hI.out (by decide)), g0.out, g1.out, g2.out, g3.out, g4.out, g5.out, g6.out, fun _ => rfl, g8.out, g9.out, g10.out, g11.out, g12.out, g13.out, g14.out, g15.out, g16.out, g17.out, g18.out, g19.out, g20.out, g22.out, g24.out⟩
            · intro bf ac wv hfb haf hJ K' hK
              obtain ⟨m, hJ⟩ := hJ
              obtain ⟨r, hJ⟩ := hJ
              obtain ⟨v70, hJ⟩ := hJ
              obtain ⟨v71, hJ⟩ := hJ
              obtain ⟨v72, hJ⟩ := hJ
              obtain ⟨v73, hJ⟩ := hJ
              obtain ⟨v74, hJ⟩ := hJ
              obtain ⟨v75, hJ⟩ := hJ
              obtain ⟨v76, hJ⟩ := hJ
              obtain ⟨v77, hJ⟩ := hJ
              obtain ⟨v78, hJ⟩ := hJ
              obtain ⟨v79, hJ⟩ := hJ
              obtain ⟨v80, hJ⟩ := hJ
              obtain ⟨v81, hJ⟩ := hJ
              obtain ⟨v82, hJ⟩ := hJ
              obtain ⟨v83, hJ⟩ := hJ
              obtain ⟨v84, hJ⟩ := hJ
              obtain ⟨v85, hJ⟩ := hJ
              obtain ⟨v86, hJ⟩ := hJ
              obtain ⟨v69, hJ⟩ := hJ
              obtain ⟨v87, hJ⟩ := hJ
              obtain ⟨v88, hJ⟩ := hJ
              obtain ⟨v89, hJ⟩ := hJ
              obtain ⟨v18, hJ⟩ := hJ
              obtain ⟨v17, hJ⟩ := hJ
              obtain ⟨v19, hJ⟩ := hJ
              obtain ⟨rfl, hJ⟩ := hJ
              obtain ⟨hM, hJ⟩ := hJ
              obtain ⟨hI, hJ⟩ := hJ
              obtain ⟨g0, hJ⟩ := hJ
              obtain ⟨g1, hJ⟩ := hJ
              obtain ⟨g2, hJ⟩ := hJ
              obtain ⟨g3, hJ⟩ := hJ
              obtain ⟨g4, hJ⟩ := hJ
              obtain ⟨g5, hJ⟩ := hJ
              obtain ⟨g6, hJ⟩ := hJ
              obtain ⟨g7, hJ⟩ := hJ
              obtain ⟨g8, hJ⟩ := hJ
              obtain ⟨g9, hJ⟩ := hJ
              obtain ⟨g10, hJ⟩ := hJ
              obtain ⟨g11, hJ⟩ := hJ
              obtain ⟨g12, hJ⟩ := hJ
              obtain ⟨g13, hJ⟩ := hJ
              obtain ⟨g14, hJ⟩ := hJ
              obtain ⟨g15, hJ⟩ := hJ
              obtain ⟨g16, hJ⟩ := hJ
              obtain ⟨g17, hJ⟩ := hJ
              obtain ⟨g18, hJ⟩ := hJ
              obtain ⟨g19, hJ⟩ := hJ
              obtain ⟨g20, hJ⟩ := hJ
              obtain ⟨g22, hJ⟩ := hJ
              have g24 := hJ
              clear hJ
              replace hK := Lib.hid hK
              replace hM := Lib.hid hM
              replace hI := Lib.hid hI
              replace hfb := Lib.hid hfb
              replace g0 := Lib.hid g0
              replace g1 := Lib.hid g1
              replace g2 := Lib.hid g2
              replace g3 := Lib.hid g3
              replace g4 := Lib.hid g4
              replace g5 := Lib.hid g5
              replace g6 := Lib.hid g6
              replace g7 := Lib.hid g7
              replace g8 := Lib.hid g8
              replace g9 := Lib.hid g9
              replace g10 := Lib.hid g10
              replace g11 := Lib.hid g11
              replace g12 := Lib.hid g12
              replace g13 := Lib.hid g13
              replace g14 := Lib.hid g14
              replace g15 := Lib.hid g15
              replace g16 := Lib.hid g16
              replace g17 := Lib.hid g17
              replace g18 := Lib.hid g18
              replace g19 := Lib.hid g19
              replace g20 := Lib.hid g20
              replace g22 := Lib.hid g22
              replace g24 := Lib.hid g24
              clear haf
              rw [HLIT.out]
              go_simp
              exact hK.out _ _ ⟨m, r, v70, v71, v72, v73, v74, v75, v76, v77, .pointer (some ⟨bt, 2, none⟩), v79, v80, v81, v82, v83, v84, v85, v86, v69, v87, v88, v89, v18, v17, v19, (by rw [HLIT.out]), hM.out, (imp_free 8 hI.out (by decide)), g0.out, g1.out, g2.out, g3.out, g4.out, g5.out, g6.out, g7.out, fun _ => rfl, g9.out, g10.out, g11.out, g12.out, g13.out, g14.out, g15.out, g16.out, g17.out, g18.out, g19.out, g20.out, g22.out, g24.out⟩
            · intro bf ac wv hfb haf hJ K' hK
              obtain ⟨m, hJ⟩ := hJ
              obtain ⟨r, hJ⟩ := hJ
              obtain ⟨v70, hJ⟩ := hJ
              obtain ⟨v71, hJ⟩ := hJ
              obtain ⟨v72, hJ⟩ := hJ
              obtain ⟨v73, hJ⟩ := hJ
              obtain ⟨v74, hJ⟩ := hJ
              obtain ⟨v75, hJ⟩ := hJ
              obtain ⟨v76, hJ⟩ := hJ
              obtain ⟨v77, hJ⟩ := hJ
              obtain ⟨v78, hJ⟩ := hJ
              obtain ⟨v79, hJ⟩ := hJ
              obtain ⟨v80, hJ⟩ := hJ
              obtain ⟨v81, hJ⟩ := hJ
              obtain ⟨v82, hJ⟩ := hJ
              obtain ⟨v83, hJ⟩ := hJ
              obtain ⟨v84, hJ⟩ := hJ
              obtain ⟨v85, hJ⟩ := hJ
              obtain ⟨v86, hJ⟩ := hJ
              obtain ⟨v69, hJ⟩ := hJ
              obtain ⟨v87, hJ⟩ := hJ
              obtain ⟨v88, hJ⟩ := hJ
              obtain ⟨v89, hJ⟩ := hJ
              obtain ⟨v18, hJ⟩ := hJ
              obtain ⟨v17, hJ⟩ := hJ
              obtain ⟨v19, hJ⟩ := hJ
              obtain ⟨rfl, hJ⟩ := hJ
              obtain ⟨hM, hJ⟩ := hJ
              obtain ⟨hI, hJ⟩ := hJ
              obtain ⟨g0, hJ⟩ := hJ
              obtain ⟨g1, hJ⟩ := hJ
              obtain ⟨g2, hJ⟩ := hJ
              obtain ⟨g3, hJ⟩ := hJ
              obtain ⟨g4, hJ⟩ := hJ
              obtain ⟨g5, hJ⟩ := hJ
              obtain ⟨g6, hJ⟩ := hJ
              obtain ⟨g7, hJ⟩ := hJ
              obtain ⟨g8, hJ⟩ := hJ
              obtain ⟨g9, hJ⟩ := hJ
              obtain ⟨g10, hJ⟩ := hJ
              obtain ⟨g11, hJ⟩ := hJ
              obtain ⟨g12, hJ⟩ := hJ
              obtain ⟨g13, hJ⟩ := hJ
              obtain ⟨g14, hJ⟩ := hJ
              obtain ⟨g15, hJ⟩ := hJ
              obtain ⟨g16, hJ⟩ := hJ
              obtain ⟨g17, hJ⟩ := hJ
              obtain ⟨g18, hJ⟩ := hJ
              obtain ⟨g19, hJ⟩ := hJ
              obtain ⟨g20, hJ⟩ := hJ
              obtain ⟨g22, hJ⟩ := hJ
              have g24 := hJ
              clear hJ
              replace hK := Lib.hid hK
              replace hM := Lib.hid hM
              replace hI := Lib.hid hI
              replace hfb := Lib.hid hfb
              replace g0 := Lib.hid g0
              replace g1 := Lib.hid g1
              replace g2 := Lib.hid g2
              replace g3 := Lib.hid g3
              replace g4 := Lib.hid g4
              replace g5 := Lib.hid g5
              replace g6 := Lib.hid g6
              replace g7 := Lib.hid g7
              replace g8 := Lib.hid g8
              replace g9 := Lib.hid g9
              replace g10 := Lib.hid g10
              replace g11 := Lib.hid g11
              replace g12 := Lib.hid g12
              replace g13 := Lib.hid g13
              replace g14 := Lib.hid g14
              replace g15 := Lib.hid g15
              replace g16 := Lib.hid g16
              replace g17 := Lib.hid g17
              replace g18 := Lib.hid g18
              replace g19 := Lib.hid g19
              replace g20 := Lib.hid g20
              replace g22 := Lib.hid g22
              replace g24 := Lib.hid g24
              simp [Region.binds] at haf
              have hb8 := Lib.hid (show bf 8 = true by simp [haf])
              clear haf
              obtain rfl := (g8.out hb8.out).symm
              rw [HLIT.out]
              have hA := HTB.out.step hM.out.below
              have xA := hA.c 2 rfl
              have zA := hA.2.2
              clear hA
              go_simp
              exact hK.out _ _ ⟨m, r, v70, v71, v72, v73, v74, v75, v76, v77, .pointer (some ⟨bt, 2, none⟩), .int .u16 x.aft, v80, v81, v82, v83, v84, v85, v86, v69, v87, v88, v89, v18, v17, v19, (by rw [HLIT.out]), hM.out, (imp_free 9 hI.out (by decide)), g0.out, g1.out, g2.out, g3.out, g4.out, g5.out, g6.out, g7.out, g8.out, fun _ => rfl, g10.out, g11.out, g12.out, g13.out, g14.out, g15.out, g16.out, g17.out, g18.out, g19.out, g20.out, g22.out, g24.out⟩
            · intro bf ac wv hfb haf hJ K' hK
              obtain ⟨m, hJ⟩ := hJ
              obtain ⟨r, hJ⟩ := hJ
              obtain ⟨v70, hJ⟩ := hJ
              obtain ⟨v71, hJ⟩ := hJ
              obtain ⟨v72, hJ⟩ := hJ
              obtain ⟨v73, hJ⟩ := hJ
              obtain ⟨v74, hJ⟩ := hJ
              obtain ⟨v75, hJ⟩ := hJ
              obtain ⟨v76, hJ⟩ := hJ
              obtain ⟨v77, hJ⟩ := hJ
              obtain ⟨v78, hJ⟩ := hJ
              obtain ⟨v79, hJ⟩ := hJ
              obtain ⟨v80, hJ⟩ := hJ
              obtain ⟨v81, hJ⟩ := hJ
              obtain ⟨v82, hJ⟩ := hJ
              obtain ⟨v83, hJ⟩ := hJ
              obtain ⟨v84, hJ⟩ := hJ
              obtain ⟨v85, hJ⟩ := hJ
              obtain ⟨v86, hJ⟩ := hJ
              obtain ⟨v69, hJ⟩ := hJ
              obtain ⟨v87, hJ⟩ := hJ
              obtain ⟨v88, hJ⟩ := hJ
              obtain ⟨v89, hJ⟩ := hJ
              obtain ⟨v18, hJ⟩ := hJ
              obtain ⟨v17, hJ⟩ := hJ
              obtain ⟨v19, hJ⟩ := hJ
              obtain ⟨rfl, hJ⟩ := hJ
              obtain ⟨hM, hJ⟩ := hJ
              obtain ⟨hI, hJ⟩ := hJ
              obtain ⟨g0, hJ⟩ := hJ
              obtain ⟨g1, hJ⟩ := hJ
              obtain ⟨g2, hJ⟩ := hJ
              obtain ⟨g3, hJ⟩ := hJ
              obtain ⟨g4, hJ⟩ := hJ
              obtain ⟨g5, hJ⟩ := hJ
              obtain ⟨g6, hJ⟩ := hJ
              obtain ⟨g7, hJ⟩ := hJ
              obtain ⟨g8, hJ⟩ := hJ
              obtain ⟨g9, hJ⟩ := hJ
              obtain ⟨g10, hJ⟩ := hJ
              obtain ⟨g11, hJ⟩ := hJ
              obtain ⟨g12, hJ⟩ := hJ
              obtain ⟨g13, hJ⟩ := hJ
              obtain ⟨g14, hJ⟩ := hJ
              obtain ⟨g15, hJ⟩ := hJ
              obtain ⟨g16, hJ⟩ := hJ
              obtain ⟨g17, hJ⟩ := hJ
              obtain ⟨g18, hJ⟩ := hJ
              obtain ⟨g19, hJ⟩ := hJ
              obtain ⟨g20, hJ⟩ := hJ
              obtain ⟨g22, hJ⟩ := hJ
              have g24 := hJ
              clear hJ
              replace hK := Lib.hid hK
              replace hM := Lib.hid hM
              replace hI := Lib.hid hI
              replace hfb := Lib.hid hfb
              replace g0 := Lib.hid g0
              replace g1 := Lib.hid g1
              replace g2 := Lib.hid g2
              replace g3 := Lib.hid g3
              replace g4 := Lib.hid g4
              replace g5 := Lib.hid g5
              replace g6 := Lib.hid g6
              replace g7 := Lib.hid g7
              replace g8 := Lib.hid g8
              replace g9 := Lib.hid g9
              replace g10 := Lib.hid g10
              replace g11 := Lib.hid g11
              replace g12 := Lib.hid g12
              replace g13 := Lib.hid g13
              replace g14 := Lib.hid g14
              replace g15 := Lib.hid g15
              replace g16 := Lib.hid g16
              replace g17 := Lib.hid g17
              replace g18 := Lib.hid g18
              replace g19 := Lib.hid g19
              replace g20 := Lib.hid g20
              replace g22 := Lib.hid g22
              replace g24 := Lib.hid g24
              simp [Region.binds] at haf
              have hb9 := Lib.hid (show bf 9 = true by simp [haf])
              clear haf
              obtain rfl := (g9.out hb9.out).symm
              rw [HLIT.out]
              have q1 : IntKind.i64.wrap x.aft = x.aft := IntWalk.i64_in _ (by omega)
              go_simp
              exact hK.out _ _ ⟨m, r, v70, v71, v72, v73, v74, v75, v76, v77, v78, .int .u16 x.aft, .int .i64 x.aft, v81, v82, v83, v84, v85, v86, v69, v87, v88, v89, v18, v17, v19, (by rw [HLIT.out]), hM.out, (imp_free 10 hI.out (by decide)), g0.out, g1.out, g2.out, g3.out, g4.out, g5.out, g6.out, g7.out, g8.out, g9.out, fun _ => rfl, g11.out, g12.out, g13.out, g14.out, g15.out, g16.out, g17.out, g18.out, g19.out, g20.out, g22.out, g24.out⟩
            · intro bf ac wv hfb haf hJ K' hK
              obtain ⟨m, hJ⟩ := hJ
              obtain ⟨r, hJ⟩ := hJ
              obtain ⟨v70, hJ⟩ := hJ
              obtain ⟨v71, hJ⟩ := hJ
              obtain ⟨v72, hJ⟩ := hJ
              obtain ⟨v73, hJ⟩ := hJ
              obtain ⟨v74, hJ⟩ := hJ
              obtain ⟨v75, hJ⟩ := hJ
              obtain ⟨v76, hJ⟩ := hJ
              obtain ⟨v77, hJ⟩ := hJ
              obtain ⟨v78, hJ⟩ := hJ
              obtain ⟨v79, hJ⟩ := hJ
              obtain ⟨v80, hJ⟩ := hJ
              obtain ⟨v81, hJ⟩ := hJ
              obtain ⟨v82, hJ⟩ := hJ
              obtain ⟨v83, hJ⟩ := hJ
              obtain ⟨v84, hJ⟩ := hJ
              obtain ⟨v85, hJ⟩ := hJ
              obtain ⟨v86, hJ⟩ := hJ
              obtain ⟨v69, hJ⟩ := hJ
              obtain ⟨v87, hJ⟩ := hJ
              obtain ⟨v88, hJ⟩ := hJ
              obtain ⟨v89, hJ⟩ := hJ
              obtain ⟨v18, hJ⟩ := hJ
              obtain ⟨v17, hJ⟩ := hJ
              obtain ⟨v19, hJ⟩ := hJ
              obtain ⟨rfl, hJ⟩ := hJ
              obtain ⟨hM, hJ⟩ := hJ
              obtain ⟨hI, hJ⟩ := hJ
              obtain ⟨g0, hJ⟩ := hJ
              obtain ⟨g1, hJ⟩ := hJ
              obtain ⟨g2, hJ⟩ := hJ
              obtain ⟨g3, hJ⟩ := hJ
              obtain ⟨g4, hJ⟩ := hJ
              obtain ⟨g5, hJ⟩ := hJ
              obtain ⟨g6, hJ⟩ := hJ
              obtain ⟨g7, hJ⟩ := hJ
              obtain ⟨g8, hJ⟩ := hJ
              obtain ⟨g9, hJ⟩ := hJ
              obtain ⟨g10, hJ⟩ := hJ
              obtain ⟨g11, hJ⟩ := hJ
              obtain ⟨g12, hJ⟩ := hJ
              obtain ⟨g13, hJ⟩ := hJ
              obtain ⟨g14, hJ⟩ := hJ
              obtain ⟨g15, hJ⟩ := hJ
              obtain ⟨g16, hJ⟩ := hJ
              obtain ⟨g17, hJ⟩ := hJ
              obtain ⟨g18, hJ⟩ := hJ
              obtain ⟨g19, hJ⟩ := hJ
              obtain ⟨g20, hJ⟩ := hJ
              obtain ⟨g22, hJ⟩ := hJ
              have g24 := hJ
              clear hJ
              replace hK := Lib.hid hK
              replace hM := Lib.hid hM
              replace hI := Lib.hid hI
              replace hfb := Lib.hid hfb
              replace g0 := Lib.hid g0
              replace g1 := Lib.hid g1
              replace g2 := Lib.hid g2
              replace g3 := Lib.hid g3
              replace g4 := Lib.hid g4
              replace g5 := Lib.hid g5
              replace g6 := Lib.hid g6
              replace g7 := Lib.hid g7
              replace g8 := Lib.hid g8
              replace g9 := Lib.hid g9
              replace g10 := Lib.hid g10
              replace g11 := Lib.hid g11
              replace g12 := Lib.hid g12
              replace g13 := Lib.hid g13
              replace g14 := Lib.hid g14
              replace g15 := Lib.hid g15
              replace g16 := Lib.hid g16
              replace g17 := Lib.hid g17
              replace g18 := Lib.hid g18
              replace g19 := Lib.hid g19
              replace g20 := Lib.hid g20
              replace g22 := Lib.hid g22
              replace g24 := Lib.hid g24
              simp [Region.binds] at haf
              have hb7 := Lib.hid (show bf 7 = true by simp [haf])
              have hb10 := Lib.hid (show bf 10 = true by simp [haf])
              clear haf
              obtain rfl := (g7.out hb7.out).symm
              obtain rfl := (g10.out hb10.out).symm
              rw [HLIT.out]
              have q1 : IntKind.i64.wrap (c + x.aft) = c + x.aft := IntWalk.i64_in _ (by omega)
              go_simp
              exact hK.out _ _ ⟨m, r, v70, v71, v72, v73, v74, v75, v76, .int .i64 c, v78, v79, .int .i64 x.aft, .int .i64 (c + x.aft), v82, v83, v84, v85, v86, v69, v87, v88, v89, v18, v17, v19, (by rw [HLIT.out]), hM.out, (imp_free 11 hI.out (by decide)), g0.out, g1.out, g2.out, g3.out, g4.out, g5.out, g6.out, g7.out, g8.out, g9.out, g10.out, fun _ => rfl, g12.out, g13.out, g14.out, g15.out, g16.out, g17.out, g18.out, g19.out, g20.out, g22.out, g24.out⟩
            · intro bf ac wv hfb haf hJ K' hK
              obtain ⟨m, hJ⟩ := hJ
              obtain ⟨r, hJ⟩ := hJ
              obtain ⟨v70, hJ⟩ := hJ
              obtain ⟨v71, hJ⟩ := hJ
              obtain ⟨v72, hJ⟩ := hJ
              obtain ⟨v73, hJ⟩ := hJ
              obtain ⟨v74, hJ⟩ := hJ
              obtain ⟨v75, hJ⟩ := hJ
              obtain ⟨v76, hJ⟩ := hJ
              obtain ⟨v77, hJ⟩ := hJ
              obtain ⟨v78, hJ⟩ := hJ
              obtain ⟨v79, hJ⟩ := hJ
              obtain ⟨v80, hJ⟩ := hJ
              obtain ⟨v81, hJ⟩ := hJ
              obtain ⟨v82, hJ⟩ := hJ
              obtain ⟨v83, hJ⟩ := hJ
              obtain ⟨v84, hJ⟩ := hJ
              obtain ⟨v85, hJ⟩ := hJ
              obtain ⟨v86, hJ⟩ := hJ
              obtain ⟨v69, hJ⟩ := hJ
              obtain ⟨v87, hJ⟩ := hJ
              obtain ⟨v88, hJ⟩ := hJ
              obtain ⟨v89, hJ⟩ := hJ
              obtain ⟨v18, hJ⟩ := hJ
              obtain ⟨v17, hJ⟩ := hJ
              obtain ⟨v19, hJ⟩ := hJ
              obtain ⟨rfl, hJ⟩ := hJ
              obtain ⟨hM, hJ⟩ := hJ
              obtain ⟨hI, hJ⟩ := hJ
              obtain ⟨g0, hJ⟩ := hJ
              obtain ⟨g1, hJ⟩ := hJ
              obtain ⟨g2, hJ⟩ := hJ
              obtain ⟨g3, hJ⟩ := hJ
              obtain ⟨g4, hJ⟩ := hJ
              obtain ⟨g5, hJ⟩ := hJ
              obtain ⟨g6, hJ⟩ := hJ
              obtain ⟨g7, hJ⟩ := hJ
              obtain ⟨g8, hJ⟩ := hJ
              obtain ⟨g9, hJ⟩ := hJ
              obtain ⟨g10, hJ⟩ := hJ
              obtain ⟨g11, hJ⟩ := hJ
              obtain ⟨g12, hJ⟩ := hJ
              obtain ⟨g13, hJ⟩ := hJ
              obtain ⟨g14, hJ⟩ := hJ
              obtain ⟨g15, hJ⟩ := hJ
              obtain ⟨g16, hJ⟩ := hJ
              obtain ⟨g17, hJ⟩ := hJ
              obtain ⟨g18, hJ⟩ := hJ
              obtain ⟨g19, hJ⟩ := hJ
              obtain ⟨g20, hJ⟩ := hJ
              obtain ⟨g22, hJ⟩ := hJ
              have g24 := hJ
              clear hJ
              replace hK := Lib.hid hK
              replace hM := Lib.hid hM
              replace hI := Lib.hid hI
              replace hfb := Lib.hid hfb
              replace g0 := Lib.hid g0
              replace g1 := Lib.hid g1
              replace g2 := Lib.hid g2
              replace g3 := Lib.hid g3
              replace g4 := Lib.hid g4
              replace g5 := Lib.hid g5
              replace g6 := Lib.hid g6
              replace g7 := Lib.hid g7
              replace g8 := Lib.hid g8
              replace g9 := Lib.hid g9
              replace g10 := Lib.hid g10
              replace g11 := Lib.hid g11
              replace g12 := Lib.hid g12
              replace g13 := Lib.hid g13
              replace g14 := Lib.hid g14
              replace g15 := Lib.hid g15
              replace g16 := Lib.hid g16
              replace g17 := Lib.hid g17
              replace g18 := Lib.hid g18
              replace g19 := Lib.hid g19
              replace g20 := Lib.hid g20
              replace g22 := Lib.hid g22
              replace g24 := Lib.hid g24
              clear haf
              rw [HLIT.out]
              go_simp
              exact hK.out _ _ ⟨m, r, v70, v71, v72, v73, v74, v75, v76, v77, v78, v79, v80, v81, .pointer (some ⟨bt, 3, none⟩), v83, v84, v85, v86, v69, v87, v88, v89, v18, v17, v19, (by rw [HLIT.out]), hM.out, (imp_free 12 hI.out (by decide)), g0.out, g1.out, g2.out, g3.out, g4.out, g5.out, g6.out, g7.out, g8.out, g9.out, g10.out, g11.out, fun _ => rfl, g13.out, g14.out, g15.out, g16.out, g17.out, g18.out, g19.out, g20.out, g22.out, g24.out⟩
            · intro bf ac wv hfb haf hJ K' hK
              obtain ⟨m, hJ⟩ := hJ
              obtain ⟨r, hJ⟩ := hJ
              obtain ⟨v70, hJ⟩ := hJ
              obtain ⟨v71, hJ⟩ := hJ
              obtain ⟨v72, hJ⟩ := hJ
              obtain ⟨v73, hJ⟩ := hJ
              obtain ⟨v74, hJ⟩ := hJ
              obtain ⟨v75, hJ⟩ := hJ
              obtain ⟨v76, hJ⟩ := hJ
              obtain ⟨v77, hJ⟩ := hJ
              obtain ⟨v78, hJ⟩ := hJ
              obtain ⟨v79, hJ⟩ := hJ
              obtain ⟨v80, hJ⟩ := hJ
              obtain ⟨v81, hJ⟩ := hJ
              obtain ⟨v82, hJ⟩ := hJ
              obtain ⟨v83, hJ⟩ := hJ
              obtain ⟨v84, hJ⟩ := hJ
              obtain ⟨v85, hJ⟩ := hJ
              obtain ⟨v86, hJ⟩ := hJ
              obtain ⟨v69, hJ⟩ := hJ
              obtain ⟨v87, hJ⟩ := hJ
              obtain ⟨v88, hJ⟩ := hJ
              obtain ⟨v89, hJ⟩ := hJ
              obtain ⟨v18, hJ⟩ := hJ
              obtain ⟨v17, hJ⟩ := hJ
              obtain ⟨v19, hJ⟩ := hJ
              obtain ⟨rfl, hJ⟩ := hJ
              obtain ⟨hM, hJ⟩ := hJ
              obtain ⟨hI, hJ⟩ := hJ
              obtain ⟨g0, hJ⟩ := hJ
              obtain ⟨g1, hJ⟩ := hJ
              obtain ⟨g2, hJ⟩ := hJ
              obtain ⟨g3, hJ⟩ := hJ
              obtain ⟨g4, hJ⟩ := hJ
              obtain ⟨g5, hJ⟩ := hJ
              obtain ⟨g6, hJ⟩ := hJ
              obtain ⟨g7, hJ⟩ := hJ
              obtain ⟨g8, hJ⟩ := hJ
              obtain ⟨g9, hJ⟩ := hJ
              obtain ⟨g10, hJ⟩ := hJ
              obtain ⟨g11, hJ⟩ := hJ
              obtain ⟨g12, hJ⟩ := hJ
              obtain ⟨g13, hJ⟩ := hJ
              obtain ⟨g14, hJ⟩ := hJ
              obtain ⟨g15, hJ⟩ := hJ
              obtain ⟨g16, hJ⟩ := hJ
              obtain ⟨g17, hJ⟩ := hJ
              obtain ⟨g18, hJ⟩ := hJ
              obtain ⟨g19, hJ⟩ := hJ
              obtain ⟨g20, hJ⟩ := hJ
              obtain ⟨g22, hJ⟩ := hJ
              have g24 := hJ
              clear hJ
              replace hK := Lib.hid hK
              replace hM := Lib.hid hM
              replace hI := Lib.hid hI
              replace hfb := Lib.hid hfb
              replace g0 := Lib.hid g0
              replace g1 := Lib.hid g1
              replace g2 := Lib.hid g2
              replace g3 := Lib.hid g3
              replace g4 := Lib.hid g4
              replace g5 := Lib.hid g5
              replace g6 := Lib.hid g6
              replace g7 := Lib.hid g7
              replace g8 := Lib.hid g8
              replace g9 := Lib.hid g9
              replace g10 := Lib.hid g10
              replace g11 := Lib.hid g11
              replace g12 := Lib.hid g12
              replace g13 := Lib.hid g13
              replace g14 := Lib.hid g14
              replace g15 := Lib.hid g15
              replace g16 := Lib.hid g16
              replace g17 := Lib.hid g17
              replace g18 := Lib.hid g18
              replace g19 := Lib.hid g19
              replace g20 := Lib.hid g20
              replace g22 := Lib.hid g22
              replace g24 := Lib.hid g24
              simp [Region.binds] at haf
              have hb12 := Lib.hid (show bf 12 = true by simp [haf])
              clear haf
              obtain rfl := (g12.out hb12.out).symm
              rw [HLIT.out]
              have hA := HTB.out.step hM.out.below
              have xA := hA.c 3 rfl
              have zA := hA.2.2
              clear hA
              go_simp
              exact hK.out _ _ ⟨m, r, v70, v71, v72, v73, v74, v75, v76, v77, v78, v79, v80, v81, .pointer (some ⟨bt, 3, none⟩), .int .u16 x.len, v84, v85, v86, v69, v87, v88, v89, v18, v17, v19, (by rw [HLIT.out]), hM.out, (imp_free 13 hI.out (by decide)), g0.out, g1.out, g2.out, g3.out, g4.out, g5.out, g6.out, g7.out, g8.out, g9.out, g10.out, g11.out, g12.out, fun _ => rfl, g14.out, g15.out, g16.out, g17.out, g18.out, g19.out, g20.out, g22.out, g24.out⟩
            · intro bf ac wv hfb haf hJ K' hK
              obtain ⟨m, hJ⟩ := hJ
              obtain ⟨r, hJ⟩ := hJ
              obtain ⟨v70, hJ⟩ := hJ
              obtain ⟨v71, hJ⟩ := hJ
              obtain ⟨v72, hJ⟩ := hJ
              obtain ⟨v73, hJ⟩ := hJ
              obtain ⟨v74, hJ⟩ := hJ
              obtain ⟨v75, hJ⟩ := hJ
              obtain ⟨v76, hJ⟩ := hJ
              obtain ⟨v77, hJ⟩ := hJ
              obtain ⟨v78, hJ⟩ := hJ
              obtain ⟨v79, hJ⟩ := hJ
              obtain ⟨v80, hJ⟩ := hJ
              obtain ⟨v81, hJ⟩ := hJ
              obtain ⟨v82, hJ⟩ := hJ
              obtain ⟨v83, hJ⟩ := hJ
              obtain ⟨v84, hJ⟩ := hJ
              obtain ⟨v85, hJ⟩ := hJ
              obtain ⟨v86, hJ⟩ := hJ
              obtain ⟨v69, hJ⟩ := hJ
              obtain ⟨v87, hJ⟩ := hJ
              obtain ⟨v88, hJ⟩ := hJ
              obtain ⟨v89, hJ⟩ := hJ
              obtain ⟨v18, hJ⟩ := hJ
              obtain ⟨v17, hJ⟩ := hJ
              obtain ⟨v19, hJ⟩ := hJ
              obtain ⟨rfl, hJ⟩ := hJ
              obtain ⟨hM, hJ⟩ := hJ
              obtain ⟨hI, hJ⟩ := hJ
              obtain ⟨g0, hJ⟩ := hJ
              obtain ⟨g1, hJ⟩ := hJ
              obtain ⟨g2, hJ⟩ := hJ
              obtain ⟨g3, hJ⟩ := hJ
              obtain ⟨g4, hJ⟩ := hJ
              obtain ⟨g5, hJ⟩ := hJ
              obtain ⟨g6, hJ⟩ := hJ
              obtain ⟨g7, hJ⟩ := hJ
              obtain ⟨g8, hJ⟩ := hJ
              obtain ⟨g9, hJ⟩ := hJ
              obtain ⟨g10, hJ⟩ := hJ
              obtain ⟨g11, hJ⟩ := hJ
              obtain ⟨g12, hJ⟩ := hJ
              obtain ⟨g13, hJ⟩ := hJ
              obtain ⟨g14, hJ⟩ := hJ
              obtain ⟨g15, hJ⟩ := hJ
              obtain ⟨g16, hJ⟩ := hJ
              obtain ⟨g17, hJ⟩ := hJ
              obtain ⟨g18, hJ⟩ := hJ
              obtain ⟨g19, hJ⟩ := hJ
              obtain ⟨g20, hJ⟩ := hJ
              obtain ⟨g22, hJ⟩ := hJ
              have g24 := hJ
              clear hJ
              replace hK := Lib.hid hK
              replace hM := Lib.hid hM
              replace hI := Lib.hid hI
              replace hfb := Lib.hid hfb
              replace g0 := Lib.hid g0
              replace g1 := Lib.hid g1
              replace g2 := Lib.hid g2
              replace g3 := Lib.hid g3
              replace g4 := Lib.hid g4
              replace g5 := Lib.hid g5
              replace g6 := Lib.hid g6
              replace g7 := Lib.hid g7
              replace g8 := Lib.hid g8
              replace g9 := Lib.hid g9
              replace g10 := Lib.hid g10
              replace g11 := Lib.hid g11
              replace g12 := Lib.hid g12
              replace g13 := Lib.hid g13
              replace g14 := Lib.hid g14
              replace g15 := Lib.hid g15
              replace g16 := Lib.hid g16
              replace g17 := Lib.hid g17
              replace g18 := Lib.hid g18
              replace g19 := Lib.hid g19
              replace g20 := Lib.hid g20
              replace g22 := Lib.hid g22
              replace g24 := Lib.hid g24
              simp [Region.binds] at haf
              have hb13 := Lib.hid (show bf 13 = true by simp [haf])
              clear haf
              obtain rfl := (g13.out hb13.out).symm
              rw [HLIT.out]
              have q1 : IntKind.i64.wrap x.len = x.len := IntWalk.i64_in _ (by omega)
              go_simp
              exact hK.out _ _ ⟨m, r, v70, v71, v72, v73, v74, v75, v76, v77, v78, v79, v80, v81, v82, .int .u16 x.len, .int .i64 x.len, v85, v86, v69, v87, v88, v89, v18, v17, v19, (by rw [HLIT.out]), hM.out, (imp_free 14 hI.out (by decide)), g0.out, g1.out, g2.out, g3.out, g4.out, g5.out, g6.out, g7.out, g8.out, g9.out, g10.out, g11.out, g12.out, g13.out, fun _ => rfl, g15.out, g16.out, g17.out, g18.out, g19.out, g20.out, g22.out, g24.out⟩
            · intro bf ac wv hfb haf hJ K' hK
              obtain ⟨m, hJ⟩ := hJ
              obtain ⟨r, hJ⟩ := hJ
              obtain ⟨v70, hJ⟩ := hJ
              obtain ⟨v71, hJ⟩ := hJ
              obtain ⟨v72, hJ⟩ := hJ
              obtain ⟨v73, hJ⟩ := hJ
              obtain ⟨v74, hJ⟩ := hJ
              obtain ⟨v75, hJ⟩ := hJ
              obtain ⟨v76, hJ⟩ := hJ
              obtain ⟨v77, hJ⟩ := hJ
              obtain ⟨v78, hJ⟩ := hJ
              obtain ⟨v79, hJ⟩ := hJ
              obtain ⟨v80, hJ⟩ := hJ
              obtain ⟨v81, hJ⟩ := hJ
              obtain ⟨v82, hJ⟩ := hJ
              obtain ⟨v83, hJ⟩ := hJ
              obtain ⟨v84, hJ⟩ := hJ
              obtain ⟨v85, hJ⟩ := hJ
              obtain ⟨v86, hJ⟩ := hJ
              obtain ⟨v69, hJ⟩ := hJ
              obtain ⟨v87, hJ⟩ := hJ
              obtain ⟨v88, hJ⟩ := hJ
              obtain ⟨v89, hJ⟩ := hJ
              obtain ⟨v18, hJ⟩ := hJ
              obtain ⟨v17, hJ⟩ := hJ
              obtain ⟨v19, hJ⟩ := hJ
              obtain ⟨rfl, hJ⟩ := hJ
              obtain ⟨hM, hJ⟩ := hJ
              obtain ⟨hI, hJ⟩ := hJ
              obtain ⟨g0, hJ⟩ := hJ
              obtain ⟨g1, hJ⟩ := hJ
              obtain ⟨g2, hJ⟩ := hJ
              obtain ⟨g3, hJ⟩ := hJ
              obtain ⟨g4, hJ⟩ := hJ
              obtain ⟨g5, hJ⟩ := hJ
              obtain ⟨g6, hJ⟩ := hJ
              obtain ⟨g7, hJ⟩ := hJ
              obtain ⟨g8, hJ⟩ := hJ
              obtain ⟨g9, hJ⟩ := hJ
              obtain ⟨g10, hJ⟩ := hJ
              obtain ⟨g11, hJ⟩ := hJ
              obtain ⟨g12, hJ⟩ := hJ
              obtain ⟨g13, hJ⟩ := hJ
              obtain ⟨g14, hJ⟩ := hJ
              obtain ⟨g15, hJ⟩ := hJ
              obtain ⟨g16, hJ⟩ := hJ
              obtain ⟨g17, hJ⟩ := hJ
              obtain ⟨g18, hJ⟩ := hJ
              obtain ⟨g19, hJ⟩ := hJ
              obtain ⟨g20, hJ⟩ := hJ
              obtain ⟨g22, hJ⟩ := hJ
              have g24 := hJ
              clear hJ
              replace hK := Lib.hid hK
              replace hM := Lib.hid hM
              replace hI := Lib.hid hI
              replace hfb := Lib.hid hfb
              replace g0 := Lib.hid g0
              replace g1 := Lib.hid g1
              replace g2 := Lib.hid g2
              replace g3 := Lib.hid g3
              replace g4 := Lib.hid g4
              replace g5 := Lib.hid g5
              replace g6 := Lib.hid g6
              replace g7 := Lib.hid g7
              replace g8 := Lib.hid g8
              replace g9 := Lib.hid g9
              replace g10 := Lib.hid g10
              replace g11 := Lib.hid g11
              replace g12 := Lib.hid g12
              replace g13 := Lib.hid g13
              replace g14 := Lib.hid g14
              replace g15 := Lib.hid g15
              replace g16 := Lib.hid g16
              replace g17 := Lib.hid g17
              replace g18 := Lib.hid g18
              replace g19 := Lib.hid g19
              replace g20 := Lib.hid g20
              replace g22 := Lib.hid g22
              replace g24 := Lib.hid g24
              simp [Region.binds] at haf
              have hb14 := Lib.hid (show bf 14 = true by simp [haf])
              clear haf
              obtain rfl := (g14.out hb14.out).symm
              rw [HLIT.out]
              have q1 : IntKind.i64.wrap (1 + x.len) = 1 + x.len := IntWalk.i64_in _ (by omega)
              go_simp
              exact hK.out _ _ ⟨m, r, v70, v71, v72, v73, v74, v75, v76, v77, v78, v79, v80, v81, v82, v83, .int .i64 x.len, .int .i64 (1 + x.len), v86, v69, v87, v88, v89, v18, v17, v19, (by rw [HLIT.out]), hM.out, (imp_free 15 hI.out (by decide)), g0.out, g1.out, g2.out, g3.out, g4.out, g5.out, g6.out, g7.out, g8.out, g9.out, g10.out, g11.out, g12.out, g13.out, g14.out, fun _ => rfl, g16.out, g17.out, g18.out, g19.out, g20.out, g22.out, g24.out⟩
            · intro bf ac wv hfb haf hJ K' hK
              obtain ⟨m, hJ⟩ := hJ
              obtain ⟨r, hJ⟩ := hJ
              obtain ⟨v70, hJ⟩ := hJ
              obtain ⟨v71, hJ⟩ := hJ
              obtain ⟨v72, hJ⟩ := hJ
              obtain ⟨v73, hJ⟩ := hJ
              obtain ⟨v74, hJ⟩ := hJ
              obtain ⟨v75, hJ⟩ := hJ
              obtain ⟨v76, hJ⟩ := hJ
              obtain ⟨v77, hJ⟩ := hJ
              obtain ⟨v78, hJ⟩ := hJ
              obtain ⟨v79, hJ⟩ := hJ
              obtain ⟨v80, hJ⟩ := hJ
              obtain ⟨v81, hJ⟩ := hJ
              obtain ⟨v82, hJ⟩ := hJ
              obtain ⟨v83, hJ⟩ := hJ
              obtain ⟨v84, hJ⟩ := hJ
              obtain ⟨v85, hJ⟩ := hJ
              obtain ⟨v86, hJ⟩ := hJ
              obtain ⟨v69, hJ⟩ := hJ
              obtain ⟨v87, hJ⟩ := hJ
              obtain ⟨v88, hJ⟩ := hJ
              obtain ⟨v89, hJ⟩ := hJ
              obtain ⟨v18, hJ⟩ := hJ
              obtain ⟨v17, hJ⟩ := hJ
              obtain ⟨v19, hJ⟩ := hJ
              obtain ⟨rfl, hJ⟩ := hJ
              obtain ⟨hM, hJ⟩ := hJ
              obtain ⟨hI, hJ⟩ := hJ
              obtain ⟨g0, hJ⟩ := hJ
              obtain ⟨g1, hJ⟩ := hJ
              obtain ⟨g2, hJ⟩ := hJ
              obtain ⟨g3, hJ⟩ := hJ
              obtain ⟨g4, hJ⟩ := hJ
              obtain ⟨g5, hJ⟩ := hJ
              obtain ⟨g6, hJ⟩ := hJ
              obtain ⟨g7, hJ⟩ := hJ
              obtain ⟨g8, hJ⟩ := hJ
              obtain ⟨g9, hJ⟩ := hJ
              obtain ⟨g10, hJ⟩ := hJ
              obtain ⟨g11, hJ⟩ := hJ
              obtain ⟨g12, hJ⟩ := hJ
              obtain ⟨g13, hJ⟩ := hJ
              obtain ⟨g14, hJ⟩ := hJ
              obtain ⟨g15, hJ⟩ := hJ
              obtain ⟨g16, hJ⟩ := hJ
              obtain ⟨g17, hJ⟩ := hJ
              obtain ⟨g18, hJ⟩ := hJ
              obtain ⟨g19, hJ⟩ := hJ
              obtain ⟨g20, hJ⟩ := hJ
              obtain ⟨g22, hJ⟩ := hJ
              have g24 := hJ
              clear hJ
              replace hK := Lib.hid hK
              replace hM := Lib.hid hM
              replace hI := Lib.hid hI
              replace hfb := Lib.hid hfb
              replace g0 := Lib.hid g0
              replace g1 := Lib.hid g1
              replace g2 := Lib.hid g2
              replace g3 := Lib.hid g3
              replace g4 := Lib.hid g4
              replace g5 := Lib.hid g5
              replace g6 := Lib.hid g6
              replace g7 := Lib.hid g7
              replace g8 := Lib.hid g8
              replace g9 := Lib.hid g9
              replace g10 := Lib.hid g10
              replace g11 := Lib.hid g11
              replace g12 := Lib.hid g12
              replace g13 := Lib.hid g13
              replace g14 := Lib.hid g14
              replace g15 := Lib.hid g15
              replace g16 := Lib.hid g16
              replace g17 := Lib.hid g17
              replace g18 := Lib.hid g18
              replace g19 := Lib.hid g19
              replace g20 := Lib.hid g20
              replace g22 := Lib.hid g22
              replace g24 := Lib.hid g24
              simp [Region.binds] at haf
              have hb0 := Lib.hid (show bf 0 = true by simp [haf])
              have hb1 := Lib.hid (show bf 1 = true by simp [haf])
              have hb6 := Lib.hid (show bf 6 = true by simp [haf])
              have hb11 := Lib.hid (show bf 11 = true by simp [haf])
              have hb15 := Lib.hid (show bf 15 = true by simp [haf])
              clear haf
              obtain rfl := (g0.out hb0.out).symm
              obtain rfl := (g1.out hb1.out).symm
              obtain rfl := (g6.out hb6.out).symm
              obtain rfl := (g11.out hb11.out).symm
              obtain rfl := (g15.out hb15.out).symm
              rw [HLIT.out]
              have n17 := Lib.hid (hI.out.no 17 16 (by simp [chainW]) hfb.out)
              have n18 := Lib.hid (hI.out.no 18 17 (by simp [chainW]) n17.out)
              have n22 := Lib.hid (hI.out.no 22 18 (by simp [chainW]) n18.out)
              go_simp
              go_at_call 10
              refine (elect_any HE.out _ _ _ (HLq.out.step hM.out.below) (HAq.out.step hM.out.below)).mono ?_
              rintro e w5 ⟨r5, rfl, hr5, b5⟩
              clear hr5
              exact hK.out _ _ ⟨m, r5, .slice la 3 lc, .slice aa 3 ac2, v72, v73, v74, v75, .int .i64 (x.hub % 3), v77, v78, v79, v80, .int .i64 (c + x.aft), v82, v83, v84, .int .i64 (1 + x.len), .tuple #[r5, .agg #[.int .i64 h, .int .i64 f, .int .i64 u], .int .i64 er], v69, v87, v88, v89, v18, v17, v19, (by rw [HLIT.out]), (hM.out.step b5), (imp_free 16 hI.out (by decide)), g0.out, g1.out, g2.out, g3.out, g4.out, g5.out, g6.out, g7.out, g8.out, g9.out, g10.out, g11.out, g12.out, g13.out, g14.out, g15.out, fun _ => rfl, no_of n17.out, no_of n18.out, g19.out, g20.out, no_of n22.out, g24.out⟩
            · intro bf ac wv hfb haf hJ K' hK
              obtain ⟨m, hJ⟩ := hJ
              obtain ⟨r, hJ⟩ := hJ
              obtain ⟨v70, hJ⟩ := hJ
              obtain ⟨v71, hJ⟩ := hJ
              obtain ⟨v72, hJ⟩ := hJ
              obtain ⟨v73, hJ⟩ := hJ
              obtain ⟨v74, hJ⟩ := hJ
              obtain ⟨v75, hJ⟩ := hJ
              obtain ⟨v76, hJ⟩ := hJ
              obtain ⟨v77, hJ⟩ := hJ
              obtain ⟨v78, hJ⟩ := hJ
              obtain ⟨v79, hJ⟩ := hJ
              obtain ⟨v80, hJ⟩ := hJ
              obtain ⟨v81, hJ⟩ := hJ
              obtain ⟨v82, hJ⟩ := hJ
              obtain ⟨v83, hJ⟩ := hJ
              obtain ⟨v84, hJ⟩ := hJ
              obtain ⟨v85, hJ⟩ := hJ
              obtain ⟨v86, hJ⟩ := hJ
              obtain ⟨v69, hJ⟩ := hJ
              obtain ⟨v87, hJ⟩ := hJ
              obtain ⟨v88, hJ⟩ := hJ
              obtain ⟨v89, hJ⟩ := hJ
              obtain ⟨v18, hJ⟩ := hJ
              obtain ⟨v17, hJ⟩ := hJ
              obtain ⟨v19, hJ⟩ := hJ
              obtain ⟨rfl, hJ⟩ := hJ
              obtain ⟨hM, hJ⟩ := hJ
              obtain ⟨hI, hJ⟩ := hJ
              obtain ⟨g0, hJ⟩ := hJ
              obtain ⟨g1, hJ⟩ := hJ
              obtain ⟨g2, hJ⟩ := hJ
              obtain ⟨g3, hJ⟩ := hJ
              obtain ⟨g4, hJ⟩ := hJ
              obtain ⟨g5, hJ⟩ := hJ
              obtain ⟨g6, hJ⟩ := hJ
              obtain ⟨g7, hJ⟩ := hJ
              obtain ⟨g8, hJ⟩ := hJ
              obtain ⟨g9, hJ⟩ := hJ
              obtain ⟨g10, hJ⟩ := hJ
              obtain ⟨g11, hJ⟩ := hJ
              obtain ⟨g12, hJ⟩ := hJ
              obtain ⟨g13, hJ⟩ := hJ
              obtain ⟨g14, hJ⟩ := hJ
              obtain ⟨g15, hJ⟩ := hJ
              obtain ⟨g16, hJ⟩ := hJ
              obtain ⟨g17, hJ⟩ := hJ
              obtain ⟨g18, hJ⟩ := hJ
              obtain ⟨g19, hJ⟩ := hJ
              obtain ⟨g20, hJ⟩ := hJ
              obtain ⟨g22, hJ⟩ := hJ
              have g24 := hJ
              clear hJ
              replace hK := Lib.hid hK
              replace hM := Lib.hid hM
              replace hI := Lib.hid hI
              replace hfb := Lib.hid hfb
              replace g0 := Lib.hid g0
              replace g1 := Lib.hid g1
              replace g2 := Lib.hid g2
              replace g3 := Lib.hid g3
              replace g4 := Lib.hid g4
              replace g5 := Lib.hid g5
              replace g6 := Lib.hid g6
              replace g7 := Lib.hid g7
              replace g8 := Lib.hid g8
              replace g9 := Lib.hid g9
              replace g10 := Lib.hid g10
              replace g11 := Lib.hid g11
              replace g12 := Lib.hid g12
              replace g13 := Lib.hid g13
              replace g14 := Lib.hid g14
              replace g15 := Lib.hid g15
              replace g16 := Lib.hid g16
              replace g17 := Lib.hid g17
              replace g18 := Lib.hid g18
              replace g19 := Lib.hid g19
              replace g20 := Lib.hid g20
              replace g22 := Lib.hid g22
              replace g24 := Lib.hid g24
              simp [Region.binds] at haf
              have hb16 := Lib.hid (show bf 16 = true by simp [haf])
              clear haf
              obtain rfl := (g16.out hb16.out).symm
              rw [HLIT.out]
              go_simp
              exact hK.out _ _ ⟨m, r, v70, v71, v72, v73, v74, v75, v76, v77, v78, v79, v80, v81, v82, v83, v84, v85, .tuple #[r, .agg #[.int .i64 h, .int .i64 f, .int .i64 u], .int .i64 er], .tuple #[r, .agg #[.int .i64 h, .int .i64 f, .int .i64 u], .int .i64 er], v87, v88, v89, v18, v17, v19, (by rw [HLIT.out]), hM.out, (imp_one 17 16 hI.out (by decide) hb16.out), g0.out, g1.out, g2.out, g3.out, g4.out, g5.out, g6.out, g7.out, g8.out, g9.out, g10.out, g11.out, g12.out, g13.out, g14.out, g15.out, g16.out, fun _ => rfl, g18.out, g19.out, g20.out, g22.out, g24.out⟩
            · intro bf ac wv hfb haf hJ K' hK
              obtain ⟨m, hJ⟩ := hJ
              obtain ⟨r, hJ⟩ := hJ
              obtain ⟨v70, hJ⟩ := hJ
              obtain ⟨v71, hJ⟩ := hJ
              obtain ⟨v72, hJ⟩ := hJ
              obtain ⟨v73, hJ⟩ := hJ
              obtain ⟨v74, hJ⟩ := hJ
              obtain ⟨v75, hJ⟩ := hJ
              obtain ⟨v76, hJ⟩ := hJ
              obtain ⟨v77, hJ⟩ := hJ
              obtain ⟨v78, hJ⟩ := hJ
              obtain ⟨v79, hJ⟩ := hJ
              obtain ⟨v80, hJ⟩ := hJ
              obtain ⟨v81, hJ⟩ := hJ
              obtain ⟨v82, hJ⟩ := hJ
              obtain ⟨v83, hJ⟩ := hJ
              obtain ⟨v84, hJ⟩ := hJ
              obtain ⟨v85, hJ⟩ := hJ
              obtain ⟨v86, hJ⟩ := hJ
              obtain ⟨v69, hJ⟩ := hJ
              obtain ⟨v87, hJ⟩ := hJ
              obtain ⟨v88, hJ⟩ := hJ
              obtain ⟨v89, hJ⟩ := hJ
              obtain ⟨v18, hJ⟩ := hJ
              obtain ⟨v17, hJ⟩ := hJ
              obtain ⟨v19, hJ⟩ := hJ
              obtain ⟨rfl, hJ⟩ := hJ
              obtain ⟨hM, hJ⟩ := hJ
              obtain ⟨hI, hJ⟩ := hJ
              obtain ⟨g0, hJ⟩ := hJ
              obtain ⟨g1, hJ⟩ := hJ
              obtain ⟨g2, hJ⟩ := hJ
              obtain ⟨g3, hJ⟩ := hJ
              obtain ⟨g4, hJ⟩ := hJ
              obtain ⟨g5, hJ⟩ := hJ
              obtain ⟨g6, hJ⟩ := hJ
              obtain ⟨g7, hJ⟩ := hJ
              obtain ⟨g8, hJ⟩ := hJ
              obtain ⟨g9, hJ⟩ := hJ
              obtain ⟨g10, hJ⟩ := hJ
              obtain ⟨g11, hJ⟩ := hJ
              obtain ⟨g12, hJ⟩ := hJ
              obtain ⟨g13, hJ⟩ := hJ
              obtain ⟨g14, hJ⟩ := hJ
              obtain ⟨g15, hJ⟩ := hJ
              obtain ⟨g16, hJ⟩ := hJ
              obtain ⟨g17, hJ⟩ := hJ
              obtain ⟨g18, hJ⟩ := hJ
              obtain ⟨g19, hJ⟩ := hJ
              obtain ⟨g20, hJ⟩ := hJ
              obtain ⟨g22, hJ⟩ := hJ
              have g24 := hJ
              clear hJ
              replace hK := Lib.hid hK
              replace hM := Lib.hid hM
              replace hI := Lib.hid hI
              replace hfb := Lib.hid hfb
              replace g0 := Lib.hid g0
              replace g1 := Lib.hid g1
              replace g2 := Lib.hid g2
              replace g3 := Lib.hid g3
              replace g4 := Lib.hid g4
              replace g5 := Lib.hid g5
              replace g6 := Lib.hid g6
              replace g7 := Lib.hid g7
              replace g8 := Lib.hid g8
              replace g9 := Lib.hid g9
              replace g10 := Lib.hid g10
              replace g11 := Lib.hid g11
              replace g12 := Lib.hid g12
              replace g13 := Lib.hid g13
              replace g14 := Lib.hid g14
              replace g15 := Lib.hid g15
              replace g16 := Lib.hid g16
              replace g17 := Lib.hid g17
              replace g18 := Lib.hid g18
              replace g19 := Lib.hid g19
              replace g20 := Lib.hid g20
              replace g22 := Lib.hid g22
              replace g24 := Lib.hid g24
              simp [Region.binds] at haf
              have hb17 := Lib.hid (show bf 17 = true by simp [haf])
              clear haf
              obtain rfl := (g17.out hb17.out).symm
              rw [HLIT.out]
              go_simp
              exact hK.out _ _ ⟨m, r, v70, v71, v72, v73, v74, v75, v76, v77, v78, v79, v80, v81, v82, v83, v84, v85, v86, .tuple #[r, .agg #[.int .i64 h, .int .i64 f, .int .i64 u], .int .i64 er], r, v88, v89, v18, v17, v19, (by rw [HLIT.out]), hM.out, (imp_one 18 17 hI.out (by decide) hb17.out), g0.out, g1.out, g2.out, g3.out, g4.out, g5.out, g6.out, g7.out, g8.out, g9.out, g10.out, g11.out, g12.out, g13.out, g14.out, g15.out, g16.out, g17.out, fun _ => rfl, g19.out, g20.out, g22.out, g24.out⟩
            · intro bf ac wv hfb haf hJ K' hK
              obtain ⟨m, hJ⟩ := hJ
              obtain ⟨r, hJ⟩ := hJ
              obtain ⟨v70, hJ⟩ := hJ
              obtain ⟨v71, hJ⟩ := hJ
              obtain ⟨v72, hJ⟩ := hJ
              obtain ⟨v73, hJ⟩ := hJ
              obtain ⟨v74, hJ⟩ := hJ
              obtain ⟨v75, hJ⟩ := hJ
              obtain ⟨v76, hJ⟩ := hJ
              obtain ⟨v77, hJ⟩ := hJ
              obtain ⟨v78, hJ⟩ := hJ
              obtain ⟨v79, hJ⟩ := hJ
              obtain ⟨v80, hJ⟩ := hJ
              obtain ⟨v81, hJ⟩ := hJ
              obtain ⟨v82, hJ⟩ := hJ
              obtain ⟨v83, hJ⟩ := hJ
              obtain ⟨v84, hJ⟩ := hJ
              obtain ⟨v85, hJ⟩ := hJ
              obtain ⟨v86, hJ⟩ := hJ
              obtain ⟨v69, hJ⟩ := hJ
              obtain ⟨v87, hJ⟩ := hJ
              obtain ⟨v88, hJ⟩ := hJ
              obtain ⟨v89, hJ⟩ := hJ
              obtain ⟨v18, hJ⟩ := hJ
              obtain ⟨v17, hJ⟩ := hJ
              obtain ⟨v19, hJ⟩ := hJ
              obtain ⟨rfl, hJ⟩ := hJ
              obtain ⟨hM, hJ⟩ := hJ
              obtain ⟨hI, hJ⟩ := hJ
              obtain ⟨g0, hJ⟩ := hJ
              obtain ⟨g1, hJ⟩ := hJ
              obtain ⟨g2, hJ⟩ := hJ
              obtain ⟨g3, hJ⟩ := hJ
              obtain ⟨g4, hJ⟩ := hJ
              obtain ⟨g5, hJ⟩ := hJ
              obtain ⟨g6, hJ⟩ := hJ
              obtain ⟨g7, hJ⟩ := hJ
              obtain ⟨g8, hJ⟩ := hJ
              obtain ⟨g9, hJ⟩ := hJ
              obtain ⟨g10, hJ⟩ := hJ
              obtain ⟨g11, hJ⟩ := hJ
              obtain ⟨g12, hJ⟩ := hJ
              obtain ⟨g13, hJ⟩ := hJ
              obtain ⟨g14, hJ⟩ := hJ
              obtain ⟨g15, hJ⟩ := hJ
              obtain ⟨g16, hJ⟩ := hJ
              obtain ⟨g17, hJ⟩ := hJ
              obtain ⟨g18, hJ⟩ := hJ
              obtain ⟨g19, hJ⟩ := hJ
              obtain ⟨g20, hJ⟩ := hJ
              obtain ⟨g22, hJ⟩ := hJ
              have g24 := hJ
              clear hJ
              replace hK := Lib.hid hK
              replace hM := Lib.hid hM
              replace hI := Lib.hid hI
              replace hfb := Lib.hid hfb
              replace g0 := Lib.hid g0
              replace g1 := Lib.hid g1
              replace g2 := Lib.hid g2
              replace g3 := Lib.hid g3
              replace g4 := Lib.hid g4
              replace g5 := Lib.hid g5
              replace g6 := Lib.hid g6
              replace g7 := Lib.hid g7
              replace g8 := Lib.hid g8
              replace g9 := Lib.hid g9
              replace g10 := Lib.hid g10
              replace g11 := Lib.hid g11
              replace g12 := Lib.hid g12
              replace g13 := Lib.hid g13
              replace g14 := Lib.hid g14
              replace g15 := Lib.hid g15
              replace g16 := Lib.hid g16
              replace g17 := Lib.hid g17
              replace g18 := Lib.hid g18
              replace g19 := Lib.hid g19
              replace g20 := Lib.hid g20
              replace g22 := Lib.hid g22
              replace g24 := Lib.hid g24
              simp [Region.binds] at haf
              have hb17 := Lib.hid (show bf 17 = true by simp [haf])
              clear haf
              obtain rfl := (g17.out hb17.out).symm
              rw [HLIT.out]
              go_simp
              exact hK.out _ _ ⟨m, r, v70, v71, v72, v73, v74, v75, v76, v77, v78, v79, v80, v81, v82, v83, v84, v85, v86, .tuple #[r, .agg #[.int .i64 h, .int .i64 f, .int .i64 u], .int .i64 er], v87, .agg #[.int .i64 h, .int .i64 f, .int .i64 u], v89, v18, v17, v19, (by rw [HLIT.out]), hM.out, (imp_free 19 hI.out (by decide)), g0.out, g1.out, g2.out, g3.out, g4.out, g5.out, g6.out, g7.out, g8.out, g9.out, g10.out, g11.out, g12.out, g13.out, g14.out, g15.out, g16.out, g17.out, g18.out, fun _ => rfl, g20.out, g22.out, g24.out⟩
            · intro bf ac wv hfb haf hJ K' hK
              obtain ⟨m, hJ⟩ := hJ
              obtain ⟨r, hJ⟩ := hJ
              obtain ⟨v70, hJ⟩ := hJ
              obtain ⟨v71, hJ⟩ := hJ
              obtain ⟨v72, hJ⟩ := hJ
              obtain ⟨v73, hJ⟩ := hJ
              obtain ⟨v74, hJ⟩ := hJ
              obtain ⟨v75, hJ⟩ := hJ
              obtain ⟨v76, hJ⟩ := hJ
              obtain ⟨v77, hJ⟩ := hJ
              obtain ⟨v78, hJ⟩ := hJ
              obtain ⟨v79, hJ⟩ := hJ
              obtain ⟨v80, hJ⟩ := hJ
              obtain ⟨v81, hJ⟩ := hJ
              obtain ⟨v82, hJ⟩ := hJ
              obtain ⟨v83, hJ⟩ := hJ
              obtain ⟨v84, hJ⟩ := hJ
              obtain ⟨v85, hJ⟩ := hJ
              obtain ⟨v86, hJ⟩ := hJ
              obtain ⟨v69, hJ⟩ := hJ
              obtain ⟨v87, hJ⟩ := hJ
              obtain ⟨v88, hJ⟩ := hJ
              obtain ⟨v89, hJ⟩ := hJ
              obtain ⟨v18, hJ⟩ := hJ
              obtain ⟨v17, hJ⟩ := hJ
              obtain ⟨v19, hJ⟩ := hJ
              obtain ⟨rfl, hJ⟩ := hJ
              obtain ⟨hM, hJ⟩ := hJ
              obtain ⟨hI, hJ⟩ := hJ
              obtain ⟨g0, hJ⟩ := hJ
              obtain ⟨g1, hJ⟩ := hJ
              obtain ⟨g2, hJ⟩ := hJ
              obtain ⟨g3, hJ⟩ := hJ
              obtain ⟨g4, hJ⟩ := hJ
              obtain ⟨g5, hJ⟩ := hJ
              obtain ⟨g6, hJ⟩ := hJ
              obtain ⟨g7, hJ⟩ := hJ
              obtain ⟨g8, hJ⟩ := hJ
              obtain ⟨g9, hJ⟩ := hJ
              obtain ⟨g10, hJ⟩ := hJ
              obtain ⟨g11, hJ⟩ := hJ
              obtain ⟨g12, hJ⟩ := hJ
              obtain ⟨g13, hJ⟩ := hJ
              obtain ⟨g14, hJ⟩ := hJ
              obtain ⟨g15, hJ⟩ := hJ
              obtain ⟨g16, hJ⟩ := hJ
              obtain ⟨g17, hJ⟩ := hJ
              obtain ⟨g18, hJ⟩ := hJ
              obtain ⟨g19, hJ⟩ := hJ
              obtain ⟨g20, hJ⟩ := hJ
              obtain ⟨g22, hJ⟩ := hJ
              have g24 := hJ
              clear hJ
              replace hK := Lib.hid hK
              replace hM := Lib.hid hM
              replace hI := Lib.hid hI
              replace hfb := Lib.hid hfb
              replace g0 := Lib.hid g0
              replace g1 := Lib.hid g1
              replace g2 := Lib.hid g2
              replace g3 := Lib.hid g3
              replace g4 := Lib.hid g4
              replace g5 := Lib.hid g5
              replace g6 := Lib.hid g6
              replace g7 := Lib.hid g7
              replace g8 := Lib.hid g8
              replace g9 := Lib.hid g9
              replace g10 := Lib.hid g10
              replace g11 := Lib.hid g11
              replace g12 := Lib.hid g12
              replace g13 := Lib.hid g13
              replace g14 := Lib.hid g14
              replace g15 := Lib.hid g15
              replace g16 := Lib.hid g16
              replace g17 := Lib.hid g17
              replace g18 := Lib.hid g18
              replace g19 := Lib.hid g19
              replace g20 := Lib.hid g20
              replace g22 := Lib.hid g22
              replace g24 := Lib.hid g24
              simp [Region.binds] at haf
              have hb17 := Lib.hid (show bf 17 = true by simp [haf])
              clear haf
              obtain rfl := (g17.out hb17.out).symm
              rw [HLIT.out]
              go_simp
              exact hK.out _ _ ⟨m, r, v70, v71, v72, v73, v74, v75, v76, v77, v78, v79, v80, v81, v82, v83, v84, v85, v86, .tuple #[r, .agg #[.int .i64 h, .int .i64 f, .int .i64 u], .int .i64 er], v87, v88, .int .i64 er, v18, v17, v19, (by rw [HLIT.out]), hM.out, (imp_free 20 hI.out (by decide)), g0.out, g1.out, g2.out, g3.out, g4.out, g5.out, g6.out, g7.out, g8.out, g9.out, g10.out, g11.out, g12.out, g13.out, g14.out, g15.out, g16.out, g17.out, g18.out, g19.out, fun _ => rfl, g22.out, g24.out⟩
            · intro bf ac wv hfb haf hJ K' hK
              obtain ⟨m, hJ⟩ := hJ
              obtain ⟨r, hJ⟩ := hJ
              obtain ⟨v70, hJ⟩ := hJ
              obtain ⟨v71, hJ⟩ := hJ
              obtain ⟨v72, hJ⟩ := hJ
              obtain ⟨v73, hJ⟩ := hJ
              obtain ⟨v74, hJ⟩ := hJ
              obtain ⟨v75, hJ⟩ := hJ
              obtain ⟨v76, hJ⟩ := hJ
              obtain ⟨v77, hJ⟩ := hJ
              obtain ⟨v78, hJ⟩ := hJ
              obtain ⟨v79, hJ⟩ := hJ
              obtain ⟨v80, hJ⟩ := hJ
              obtain ⟨v81, hJ⟩ := hJ
              obtain ⟨v82, hJ⟩ := hJ
              obtain ⟨v83, hJ⟩ := hJ
              obtain ⟨v84, hJ⟩ := hJ
              obtain ⟨v85, hJ⟩ := hJ
              obtain ⟨v86, hJ⟩ := hJ
              obtain ⟨v69, hJ⟩ := hJ
              obtain ⟨v87, hJ⟩ := hJ
              obtain ⟨v88, hJ⟩ := hJ
              obtain ⟨v89, hJ⟩ := hJ
              obtain ⟨v18, hJ⟩ := hJ
              obtain ⟨v17, hJ⟩ := hJ
              obtain ⟨v19, hJ⟩ := hJ
              obtain ⟨rfl, hJ⟩ := hJ
              obtain ⟨hM, hJ⟩ := hJ
              obtain ⟨hI, hJ⟩ := hJ
              obtain ⟨g0, hJ⟩ := hJ
              obtain ⟨g1, hJ⟩ := hJ
              obtain ⟨g2, hJ⟩ := hJ
              obtain ⟨g3, hJ⟩ := hJ
              obtain ⟨g4, hJ⟩ := hJ
              obtain ⟨g5, hJ⟩ := hJ
              obtain ⟨g6, hJ⟩ := hJ
              obtain ⟨g7, hJ⟩ := hJ
              obtain ⟨g8, hJ⟩ := hJ
              obtain ⟨g9, hJ⟩ := hJ
              obtain ⟨g10, hJ⟩ := hJ
              obtain ⟨g11, hJ⟩ := hJ
              obtain ⟨g12, hJ⟩ := hJ
              obtain ⟨g13, hJ⟩ := hJ
              obtain ⟨g14, hJ⟩ := hJ
              obtain ⟨g15, hJ⟩ := hJ
              obtain ⟨g16, hJ⟩ := hJ
              obtain ⟨g17, hJ⟩ := hJ
              obtain ⟨g18, hJ⟩ := hJ
              obtain ⟨g19, hJ⟩ := hJ
              obtain ⟨g20, hJ⟩ := hJ
              obtain ⟨g22, hJ⟩ := hJ
              have g24 := hJ
              clear hJ
              replace hK := Lib.hid hK
              replace hM := Lib.hid hM
              replace hI := Lib.hid hI
              replace hfb := Lib.hid hfb
              replace g0 := Lib.hid g0
              replace g1 := Lib.hid g1
              replace g2 := Lib.hid g2
              replace g3 := Lib.hid g3
              replace g4 := Lib.hid g4
              replace g5 := Lib.hid g5
              replace g6 := Lib.hid g6
              replace g7 := Lib.hid g7
              replace g8 := Lib.hid g8
              replace g9 := Lib.hid g9
              replace g10 := Lib.hid g10
              replace g11 := Lib.hid g11
              replace g12 := Lib.hid g12
              replace g13 := Lib.hid g13
              replace g14 := Lib.hid g14
              replace g15 := Lib.hid g15
              replace g16 := Lib.hid g16
              replace g17 := Lib.hid g17
              replace g18 := Lib.hid g18
              replace g19 := Lib.hid g19
              replace g20 := Lib.hid g20
              replace g22 := Lib.hid g22
              replace g24 := Lib.hid g24
              clear haf
              rw [HLIT.out]
              have hM2 := hM.out
              rw [hfb.out] at hM2
              have hM3 := Lib.hid hM2.alloc
              clear hM2
              go_simp
              exact hK.out _ _ ⟨wv.heap.size, r, v70, v71, v72, v73, v74, v75, v76, v77, v78, v79, v80, v81, v82, v83, v84, v85, v86, v69, v87, v88, v89, .pointer (some ⟨wv.heap.size, 0, none⟩), v17, v19, (by rw [HLIT.out]), hM3.out, (imp_free 21 hI.out (by decide)), g0.out, g1.out, g2.out, g3.out, g4.out, g5.out, g6.out, g7.out, g8.out, g9.out, g10.out, g11.out, g12.out, g13.out, g14.out, g15.out, g16.out, g17.out, g18.out, g19.out, g20.out, g22.out, g24.out⟩
            · intro bf ac wv hfb haf hJ K' hK
              obtain ⟨m, hJ⟩ := hJ
              obtain ⟨r, hJ⟩ := hJ
              obtain ⟨v70, hJ⟩ := hJ
              obtain ⟨v71, hJ⟩ := hJ
              obtain ⟨v72, hJ⟩ := hJ
              obtain ⟨v73, hJ⟩ := hJ
              obtain ⟨v74, hJ⟩ := hJ
              obtain ⟨v75, hJ⟩ := hJ
              obtain ⟨v76, hJ⟩ := hJ
              obtain ⟨v77, hJ⟩ := hJ
              obtain ⟨v78, hJ⟩ := hJ
              obtain ⟨v79, hJ⟩ := hJ
              obtain ⟨v80, hJ⟩ := hJ
              obtain ⟨v81, hJ⟩ := hJ
              obtain ⟨v82, hJ⟩ := hJ
              obtain ⟨v83, hJ⟩ := hJ
              obtain ⟨v84, hJ⟩ := hJ
              obtain ⟨v85, hJ⟩ := hJ
              obtain ⟨v86, hJ⟩ := hJ
              obtain ⟨v69, hJ⟩ := hJ
              obtain ⟨v87, hJ⟩ := hJ
              obtain ⟨v88, hJ⟩ := hJ
              obtain ⟨v89, hJ⟩ := hJ
              obtain ⟨v18, hJ⟩ := hJ
              obtain ⟨v17, hJ⟩ := hJ
              obtain ⟨v19, hJ⟩ := hJ
              obtain ⟨rfl, hJ⟩ := hJ
              obtain ⟨hM, hJ⟩ := hJ
              obtain ⟨hI, hJ⟩ := hJ
              obtain ⟨g0, hJ⟩ := hJ
              obtain ⟨g1, hJ⟩ := hJ
              obtain ⟨g2, hJ⟩ := hJ
              obtain ⟨g3, hJ⟩ := hJ
              obtain ⟨g4, hJ⟩ := hJ
              obtain ⟨g5, hJ⟩ := hJ
              obtain ⟨g6, hJ⟩ := hJ
              obtain ⟨g7, hJ⟩ := hJ
              obtain ⟨g8, hJ⟩ := hJ
              obtain ⟨g9, hJ⟩ := hJ
              obtain ⟨g10, hJ⟩ := hJ
              obtain ⟨g11, hJ⟩ := hJ
              obtain ⟨g12, hJ⟩ := hJ
              obtain ⟨g13, hJ⟩ := hJ
              obtain ⟨g14, hJ⟩ := hJ
              obtain ⟨g15, hJ⟩ := hJ
              obtain ⟨g16, hJ⟩ := hJ
              obtain ⟨g17, hJ⟩ := hJ
              obtain ⟨g18, hJ⟩ := hJ
              obtain ⟨g19, hJ⟩ := hJ
              obtain ⟨g20, hJ⟩ := hJ
              obtain ⟨g22, hJ⟩ := hJ
              have g24 := hJ
              clear hJ
              replace hK := Lib.hid hK
              replace hM := Lib.hid hM
              replace hI := Lib.hid hI
              replace hfb := Lib.hid hfb
              replace g0 := Lib.hid g0
              replace g1 := Lib.hid g1
              replace g2 := Lib.hid g2
              replace g3 := Lib.hid g3
              replace g4 := Lib.hid g4
              replace g5 := Lib.hid g5
              replace g6 := Lib.hid g6
              replace g7 := Lib.hid g7
              replace g8 := Lib.hid g8
              replace g9 := Lib.hid g9
              replace g10 := Lib.hid g10
              replace g11 := Lib.hid g11
              replace g12 := Lib.hid g12
              replace g13 := Lib.hid g13
              replace g14 := Lib.hid g14
              replace g15 := Lib.hid g15
              replace g16 := Lib.hid g16
              replace g17 := Lib.hid g17
              replace g18 := Lib.hid g18
              replace g19 := Lib.hid g19
              replace g20 := Lib.hid g20
              replace g22 := Lib.hid g22
              replace g24 := Lib.hid g24
              simp [Region.binds] at haf
              have hb18 := Lib.hid (show bf 18 = true by simp [haf])
              clear haf
              obtain rfl := (g18.out hb18.out).symm
              rw [HLIT.out]
              go_simp
              exact hK.out _ _ ⟨m, r, v70, v71, v72, v73, v74, v75, v76, v77, v78, v79, v80, v81, v82, v83, v84, v85, v86, v69, r, v88, v89, v18, r, v19, (by rw [HLIT.out]), hM.out, (imp_one 22 18 hI.out (by decide) hb18.out), g0.out, g1.out, g2.out, g3.out, g4.out, g5.out, g6.out, g7.out, g8.out, g9.out, g10.out, g11.out, g12.out, g13.out, g14.out, g15.out, g16.out, g17.out, g18.out, g19.out, g20.out, fun _ => rfl, g24.out⟩
            · intro bf ac wv hfb haf hJ K' hK
              obtain ⟨m, hJ⟩ := hJ
              obtain ⟨r, hJ⟩ := hJ
              obtain ⟨v70, hJ⟩ := hJ
              obtain ⟨v71, hJ⟩ := hJ
              obtain ⟨v72, hJ⟩ := hJ
              obtain ⟨v73, hJ⟩ := hJ
              obtain ⟨v74, hJ⟩ := hJ
              obtain ⟨v75, hJ⟩ := hJ
              obtain ⟨v76, hJ⟩ := hJ
              obtain ⟨v77, hJ⟩ := hJ
              obtain ⟨v78, hJ⟩ := hJ
              obtain ⟨v79, hJ⟩ := hJ
              obtain ⟨v80, hJ⟩ := hJ
              obtain ⟨v81, hJ⟩ := hJ
              obtain ⟨v82, hJ⟩ := hJ
              obtain ⟨v83, hJ⟩ := hJ
              obtain ⟨v84, hJ⟩ := hJ
              obtain ⟨v85, hJ⟩ := hJ
              obtain ⟨v86, hJ⟩ := hJ
              obtain ⟨v69, hJ⟩ := hJ
              obtain ⟨v87, hJ⟩ := hJ
              obtain ⟨v88, hJ⟩ := hJ
              obtain ⟨v89, hJ⟩ := hJ
              obtain ⟨v18, hJ⟩ := hJ
              obtain ⟨v17, hJ⟩ := hJ
              obtain ⟨v19, hJ⟩ := hJ
              obtain ⟨rfl, hJ⟩ := hJ
              obtain ⟨hM, hJ⟩ := hJ
              obtain ⟨hI, hJ⟩ := hJ
              obtain ⟨g0, hJ⟩ := hJ
              obtain ⟨g1, hJ⟩ := hJ
              obtain ⟨g2, hJ⟩ := hJ
              obtain ⟨g3, hJ⟩ := hJ
              obtain ⟨g4, hJ⟩ := hJ
              obtain ⟨g5, hJ⟩ := hJ
              obtain ⟨g6, hJ⟩ := hJ
              obtain ⟨g7, hJ⟩ := hJ
              obtain ⟨g8, hJ⟩ := hJ
              obtain ⟨g9, hJ⟩ := hJ
              obtain ⟨g10, hJ⟩ := hJ
              obtain ⟨g11, hJ⟩ := hJ
              obtain ⟨g12, hJ⟩ := hJ
              obtain ⟨g13, hJ⟩ := hJ
              obtain ⟨g14, hJ⟩ := hJ
              obtain ⟨g15, hJ⟩ := hJ
              obtain ⟨g16, hJ⟩ := hJ
              obtain ⟨g17, hJ⟩ := hJ
              obtain ⟨g18, hJ⟩ := hJ
              obtain ⟨g19, hJ⟩ := hJ
              obtain ⟨g20, hJ⟩ := hJ
              obtain ⟨g22, hJ⟩ := hJ
              have g24 := hJ
              clear hJ
              replace hK := Lib.hid hK
              replace hM := Lib.hid hM
              replace hI := Lib.hid hI
              replace hfb := Lib.hid hfb
              replace g0 := Lib.hid g0
              replace g1 := Lib.hid g1
              replace g2 := Lib.hid g2
              replace g3 := Lib.hid g3
              replace g4 := Lib.hid g4
              replace g5 := Lib.hid g5
              replace g6 := Lib.hid g6
              replace g7 := Lib.hid g7
              replace g8 := Lib.hid g8
              replace g9 := Lib.hid g9
              replace g10 := Lib.hid g10
              replace g11 := Lib.hid g11
              replace g12 := Lib.hid g12
              replace g13 := Lib.hid g13
              replace g14 := Lib.hid g14
              replace g15 := Lib.hid g15
              replace g16 := Lib.hid g16
              replace g17 := Lib.hid g17
              replace g18 := Lib.hid g18
              replace g19 := Lib.hid g19
              replace g20 := Lib.hid g20
              replace g22 := Lib.hid g22
              replace g24 := Lib.hid g24
              simp [Region.binds] at haf
              have hb19 := Lib.hid (show bf 19 = true by simp [haf])
              have hb21 := Lib.hid (show bf 21 = true by simp [haf])
              clear haf
              obtain rfl := (g19.out hb19.out).symm
              rw [HLIT.out]
              have hM2 := hM.out
              rw [hb21.out, hfb.out] at hM2
              have hM3 := Lib.hid hM2.store
              obtain ⟨rfl, hZ⟩ := hM2.c rfl
              have hZ := Lib.hid hZ
              clear hM2
              have xZ0 := hZ.out.c 0 rfl
              have yZ0 := hZ.out.f 0 (by simp)
              have xZ1 := hZ.out.c 1 rfl
              have yZ1 := hZ.out.f 1 (by simp)
              have xZ2 := hZ.out.c 2 rfl
              have yZ2 := hZ.out.f 2 (by simp)
              have zZ := hZ.out.2.2
              go_simp
              exact hK.out _ _ ⟨m, r, v70, v71, v72, v73, v74, v75, v76, v77, v78, v79, v80, v81, v82, v83, v84, v85, v86, v69, v87, .agg #[.int .i64 h, .int .i64 f, .int .i64 u], v89, .pointer (some ⟨m, 0, none⟩), v17, v19, (by rw [HLIT.out]), (by rw [show up bf 23 21 = true from hb21.out]; exact hM3.out), (imp_free 23 hI.out (by decide)), g0.out, g1.out, g2.out, g3.out, g4.out, g5.out, g6.out, g7.out, g8.out, g9.out, g10.out, g11.out, g12.out, g13.out, g14.out, g15.out, g16.out, g17.out, g18.out, g19.out, g20.out, g22.out, g24.out⟩
            · intro bf ac wv hfb haf hJ K' hK
              obtain ⟨m, hJ⟩ := hJ
              obtain ⟨r, hJ⟩ := hJ
              obtain ⟨v70, hJ⟩ := hJ
              obtain ⟨v71, hJ⟩ := hJ
              obtain ⟨v72, hJ⟩ := hJ
              obtain ⟨v73, hJ⟩ := hJ
              obtain ⟨v74, hJ⟩ := hJ
              obtain ⟨v75, hJ⟩ := hJ
              obtain ⟨v76, hJ⟩ := hJ
              obtain ⟨v77, hJ⟩ := hJ
              obtain ⟨v78, hJ⟩ := hJ
              obtain ⟨v79, hJ⟩ := hJ
              obtain ⟨v80, hJ⟩ := hJ
              obtain ⟨v81, hJ⟩ := hJ
              obtain ⟨v82, hJ⟩ := hJ
              obtain ⟨v83, hJ⟩ := hJ
              obtain ⟨v84, hJ⟩ := hJ
              obtain ⟨v85, hJ⟩ := hJ
              obtain ⟨v86, hJ⟩ := hJ
              obtain ⟨v69, hJ⟩ := hJ
              obtain ⟨v87, hJ⟩ := hJ
              obtain ⟨v88, hJ⟩ := hJ
              obtain ⟨v89, hJ⟩ := hJ
              obtain ⟨v18, hJ⟩ := hJ
              obtain ⟨v17, hJ⟩ := hJ
              obtain ⟨v19, hJ⟩ := hJ
              obtain ⟨rfl, hJ⟩ := hJ
              obtain ⟨hM, hJ⟩ := hJ
              obtain ⟨hI, hJ⟩ := hJ
              obtain ⟨g0, hJ⟩ := hJ
              obtain ⟨g1, hJ⟩ := hJ
              obtain ⟨g2, hJ⟩ := hJ
              obtain ⟨g3, hJ⟩ := hJ
              obtain ⟨g4, hJ⟩ := hJ
              obtain ⟨g5, hJ⟩ := hJ
              obtain ⟨g6, hJ⟩ := hJ
              obtain ⟨g7, hJ⟩ := hJ
              obtain ⟨g8, hJ⟩ := hJ
              obtain ⟨g9, hJ⟩ := hJ
              obtain ⟨g10, hJ⟩ := hJ
              obtain ⟨g11, hJ⟩ := hJ
              obtain ⟨g12, hJ⟩ := hJ
              obtain ⟨g13, hJ⟩ := hJ
              obtain ⟨g14, hJ⟩ := hJ
              obtain ⟨g15, hJ⟩ := hJ
              obtain ⟨g16, hJ⟩ := hJ
              obtain ⟨g17, hJ⟩ := hJ
              obtain ⟨g18, hJ⟩ := hJ
              obtain ⟨g19, hJ⟩ := hJ
              obtain ⟨g20, hJ⟩ := hJ
              obtain ⟨g22, hJ⟩ := hJ
              have g24 := hJ
              clear hJ
              replace hK := Lib.hid hK
              replace hM := Lib.hid hM
              replace hI := Lib.hid hI
              replace hfb := Lib.hid hfb
              replace g0 := Lib.hid g0
              replace g1 := Lib.hid g1
              replace g2 := Lib.hid g2
              replace g3 := Lib.hid g3
              replace g4 := Lib.hid g4
              replace g5 := Lib.hid g5
              replace g6 := Lib.hid g6
              replace g7 := Lib.hid g7
              replace g8 := Lib.hid g8
              replace g9 := Lib.hid g9
              replace g10 := Lib.hid g10
              replace g11 := Lib.hid g11
              replace g12 := Lib.hid g12
              replace g13 := Lib.hid g13
              replace g14 := Lib.hid g14
              replace g15 := Lib.hid g15
              replace g16 := Lib.hid g16
              replace g17 := Lib.hid g17
              replace g18 := Lib.hid g18
              replace g19 := Lib.hid g19
              replace g20 := Lib.hid g20
              replace g22 := Lib.hid g22
              replace g24 := Lib.hid g24
              simp [Region.binds] at haf
              have hb20 := Lib.hid (show bf 20 = true by simp [haf])
              clear haf
              obtain rfl := (g20.out hb20.out).symm
              rw [HLIT.out]
              go_simp
              exact hK.out _ _ ⟨m, r, v70, v71, v72, v73, v74, v75, v76, v77, v78, v79, v80, v81, v82, v83, v84, v85, v86, v69, v87, v88, .int .i64 er, v18, v17, .int .i64 er, (by rw [HLIT.out]), hM.out, (imp_free 24 hI.out (by decide)), g0.out, g1.out, g2.out, g3.out, g4.out, g5.out, g6.out, g7.out, g8.out, g9.out, g10.out, g11.out, g12.out, g13.out, g14.out, g15.out, g16.out, g17.out, g18.out, g19.out, g20.out, g22.out, fun _ => rfl⟩
          · intro bf ac wv hall hJ
            obtain ⟨m, hJ⟩ := hJ
            obtain ⟨r, hJ⟩ := hJ
            obtain ⟨v70, hJ⟩ := hJ
            obtain ⟨v71, hJ⟩ := hJ
            obtain ⟨v72, hJ⟩ := hJ
            obtain ⟨v73, hJ⟩ := hJ
            obtain ⟨v74, hJ⟩ := hJ
            obtain ⟨v75, hJ⟩ := hJ
            obtain ⟨v76, hJ⟩ := hJ
            obtain ⟨v77, hJ⟩ := hJ
            obtain ⟨v78, hJ⟩ := hJ
            obtain ⟨v79, hJ⟩ := hJ
            obtain ⟨v80, hJ⟩ := hJ
            obtain ⟨v81, hJ⟩ := hJ
            obtain ⟨v82, hJ⟩ := hJ
            obtain ⟨v83, hJ⟩ := hJ
            obtain ⟨v84, hJ⟩ := hJ
            obtain ⟨v85, hJ⟩ := hJ
            obtain ⟨v86, hJ⟩ := hJ
            obtain ⟨v69, hJ⟩ := hJ
            obtain ⟨v87, hJ⟩ := hJ
            obtain ⟨v88, hJ⟩ := hJ
            obtain ⟨v89, hJ⟩ := hJ
            obtain ⟨v18, hJ⟩ := hJ
            obtain ⟨v17, hJ⟩ := hJ
            obtain ⟨v19, hJ⟩ := hJ
            obtain ⟨rfl, hJ⟩ := hJ
            obtain ⟨hM, hJ⟩ := hJ
            obtain ⟨hI, hJ⟩ := hJ
            obtain ⟨g0, hJ⟩ := hJ
            obtain ⟨g1, hJ⟩ := hJ
            obtain ⟨g2, hJ⟩ := hJ
            obtain ⟨g3, hJ⟩ := hJ
            obtain ⟨g4, hJ⟩ := hJ
            obtain ⟨g5, hJ⟩ := hJ
            obtain ⟨g6, hJ⟩ := hJ
            obtain ⟨g7, hJ⟩ := hJ
            obtain ⟨g8, hJ⟩ := hJ
            obtain ⟨g9, hJ⟩ := hJ
            obtain ⟨g10, hJ⟩ := hJ
            obtain ⟨g11, hJ⟩ := hJ
            obtain ⟨g12, hJ⟩ := hJ
            obtain ⟨g13, hJ⟩ := hJ
            obtain ⟨g14, hJ⟩ := hJ
            obtain ⟨g15, hJ⟩ := hJ
            obtain ⟨g16, hJ⟩ := hJ
            obtain ⟨g17, hJ⟩ := hJ
            obtain ⟨g18, hJ⟩ := hJ
            obtain ⟨g19, hJ⟩ := hJ
            obtain ⟨g20, hJ⟩ := hJ
            obtain ⟨g22, hJ⟩ := hJ
            have g24 := hJ
            clear hJ
            obtain rfl := (g24 (hall 24 (by decide))).symm
            have HB9 := Lib.hid (keep2 hM.below HBq.out)
            clear hM hI hall g0 g1 g2 g3 g4 g5 g6 g7 g8 g9 g10 g11 g12 g13 g14 g15 g16 g17 g18 g19 g20 g22 g24
            rw [HLIT.out]
            rcases HPP.out with ⟨h5, hmj⟩ | ⟨h5, hmj⟩
            · subst h5
              have q1 : ((3 : Int) < 2 * (trN A 3 : Int)) = True := eq_true (by omega)
              clear HPP
              go_wp2
              go_ret
              exact ⟨rfl, by rw [← hbt]; exact HB9.out⟩
            · subst h5
              have q1 : ((3 : Int) < 2 * (trN A 3 : Int)) = False := eq_false (by omega)
              clear HPP
              go_wp2
              go_ret
              exact ⟨rfl, by rw [← hbt]; exact HB9.out⟩
theorem waits_any (t : Bool) (v : Value) (T : List Tr) (x : Tr) (w : World) (hl : TrsAt w v T) (hx : ∀ x ∈ T, x.ok) (hxo : x.ok) : Calls Try.prog 8 #[.bool t, v, .agg #[.int .u8 x.hub, .int .u8 x.ans, .int .u16 x.aft, .int .u16 x.len]] w fun e w' => e = .returned (.bool true) ∧ Below w.heap.size w w' := by
  by_cases h60 : T.length ≤ 60
  · cases t
    · exact waits_2 v T x w hl hx hxo h60
    · exact waits_3 v T x w hl hx hxo h60
  · exact waits_out t v T x w hl (by omega)
end Go.Proofs.Ytelohejnbfefoaa
