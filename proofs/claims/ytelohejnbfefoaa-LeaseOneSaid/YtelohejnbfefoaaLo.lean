/- Law LeaseOne: the walk. -/
import Derived.Test.YtelohejnbfefoaaLz
import Derived.Test.YtelohejnbfefoaaIv
namespace Go.Proofs.Ytelohejnbfefoaa
open Go.RowKit

theorem holds_l (h f u now : Int) (w : World) : Calls Try.prog 17 #[.agg #[.int .i64 h, .int .i64 f, .int .i64 u], .int .i64 now] w fun e w' => e = .returned (.bool (hoB f u now)) ∧ Below w.heap.size w w' := holds_any h f u now w
/-- One value set. -/
def upv (vs : Nat → Value) (i : Nat) (x : Value) : Nat → Value := fun k => cond (k == i) x (vs k)
theorem up_val {vs : Nat → Value} {bf : Nat → Bool} {val : List Value} (i : Nat) (h : ∀ k, bf k = true → vs k = val.getD k undef) {x : Value} (hx : val.getD i undef = x) : ∀ k, up bf i k = true → upv vs i x k = val.getD k undef := fun k hk => by
  unfold upv
  by_cases e : k = i
  · subst e; simp only [beq_self_eq_true, cond_true]; exact hx.symm
  · have : (k == i) = false := by simpa using e
    rw [this]
    exact h k (by unfold up at hk; rwa [if_neg e] at hk)
theorem ho_no {f u now : Int} (h : u ≤ now) : hoB f u now = false := by
  unfold hoB
  rw [show decide (now < u) = false by simp; omega, Bool.and_false]
theorem ho_lt {f u now : Int} (h : hoB f u now = true) : now < u := by
  unfold hoB at h
  simp only [Bool.and_eq_true, decide_eq_true_iff] at h
  exact h.2
set_option maxRecDepth 100000 in
set_option maxHeartbeats 4000000 in
theorem one_out (t : Bool) (v : Value) (T : List Tr) (tm : Int) (w : World) (hl : TrsAt w v T) (h60 : 60 < T.length) : Calls Try.prog 6 #[.bool t, v, .int .u32 tm] w fun e w' => e = .returned (.bool true) ∧ Below w.heap.size w w' := by
  obtain ⟨a, cap, rfl, hm, -⟩ := hl
  unfold maxLen at hm
  go_enter Try.func6, Try.ntmps6
  go_wp2_with fail
  refine (head_any _).mono ?_
  rintro e w1 ⟨rfl, b1⟩
  have B1 := Lib.hid b1
  clear b1
  go_wp2
  go_ret
  exact ⟨rfl, B1.out⟩
set_option maxRecDepth 100000 in
set_option maxHeartbeats 16000000 in
theorem one_2 (v : Value) (T : List Tr) (tm : Int) (w : World) (hl : TrsAt w v T) (hx : ∀ x ∈ T, x.ok) (h60 : T.length ≤ 60) (t1 : 0 ≤ tm) (t2 : tm ≤ 4294967295) : Calls Try.prog 6 #[.bool false, v, .int .u32 tm] w fun e w' => e = .returned (.bool true) ∧ Below w.heap.size w w' := by
  have HL := Lib.hid hl
  have HX := Lib.hid hx
  clear hx
  obtain ⟨a, cap, rfl, -, -⟩ := hl
  go_enter Try.func6, Try.ntmps6
  go_wp2_with fail
  refine (head_any _).mono ?_
  rintro e w1 ⟨rfl, b1⟩
  have B1 := Lib.hid b1
  clear b1
  go_wp2_with fail
  refine (play2 _ T w1 (HL.out.step B1.out) HX.out h60).mono ?_
  rintro e w2 ⟨lv, gv, L, G, now, rfl, hL, hG, hI, hGn, b2⟩
  have HB2 := Lib.hid (keep2 b2 B1.out)
  have HG := Lib.hid hG
  have HI := Lib.hid hI
  have HLv := Lib.hid hL
  have hG60 : G.length ≤ 60 := by omega
  clear hL hI b2 hGn
  obtain ⟨ga, gc, rfl, -, -⟩ := hG
  go_wp2_with fail
  go_loopw [13] (fun i wr => ∃ k : Nat, k ≤ G.length ∧ i = .int .i64 k ∧ Hid (Below w2.heap.size w2 wr)) (fun i _ => G.length - (intOf i).toNat)
  case atStart => exact ⟨0, by omega, rfl, Below.refl _ _⟩
  case round =>
    obtain ⟨i, hi, rfl, HB⟩ := hrel
    by_cases hlt : i < G.length
    · go_wp2_with fail
      go_loopw [14] (fun kk wrr => ∃ j : Nat, j ≤ i ∧ kk = .int .i64 j ∧ Hid (Below w2.heap.size w2 wrr)) (fun kk _ => i - (intOf kk).toNat)
      case atStart => exact ⟨0, by omega, rfl, HB⟩
      case round =>
        clear HB
        obtain ⟨j, hj, rfl, HB⟩ := hrel
        have hsz := HB.out.size
        by_cases hji : j < i
        · obtain ⟨a2, cap2, hva, -, hcs⟩ := HG.out.step HB.out
          obtain ⟨rfl, rfl⟩ : ga = a2 ∧ gc = cap2 := by simpa using hva
          obtain ⟨b, off, rfl, hcs2⟩ := hcs (by intro h; rw [h] at hlt; simp at hlt)
          have hjl : j < G.length := by omega
          obtain ⟨x0, x1, x2, x3⟩ := hcs2 j _ (go_get hjl)
          obtain ⟨y0, y1, y2, y3⟩ := hcs2 i _ (go_get hlt)
          have hp := (HI.out.pair j i hji hlt).2
          generalize G.getD j zG = ga1 at *
          generalize G.getD i zG = gb1 at *
          obtain ⟨ah, af, au, at1⟩ := ga1
          obtain ⟨bh, bf1, bu, bt⟩ := gb1
          simp only at x0 x1 x2 x3 y0 y1 y2 y3 hp
          have hbl := World.block_lt_of_cell? _ _ x0
          have hbl : b < wr.heap.size := hbl
          have KA := Lib.hid ((Cs.new wr wr.heap.size #[.int .i64 ah, .int .i64 af, .int .i64 au] 27 rfl).alloc (.cells #[.int .i64 bh, .int .i64 bf1, .int .i64 bu] 27))
          have KB := Lib.hid (Cs.new (wr.alloc (.cells #[.int .i64 ah, .int .i64 af, .int .i64 au] 27)) (wr.heap.size + 1) #[.int .i64 bh, .int .i64 bf1, .int .i64 bu] 27 (by simp))
          have HBq := Lib.hid (HB.out.trans ((al2 (w := wr) (o1 := .cells #[.int .i64 ah, .int .i64 af, .int .i64 au] 27) (o2 := .cells #[.int .i64 bh, .int .i64 bf1, .int .i64 bu] 27)).mono hsz))
          have qg3 := keep1 (al2 (w := wr) (o1 := .cells #[.int .i64 ah, .int .i64 af, .int .i64 au] 27) (o2 := .cells #[.int .i64 bh, .int .i64 bf1, .int .i64 bu] 27)) y3
          have HP := Lib.hid hp
          clear hva hcs hcs2 hp
          go_upto_region 18 with fail
          have hwz : wr.heap.size + 1 + 1 = ((wr.alloc (.cells #[.int .i64 ah, .int .i64 af, .int .i64 au] 27)).alloc (.cells #[.int .i64 bh, .int .i64 bf1, .int .i64 bu] 27)).heap.size := by simp
          clear x0 x1 x2 x3 y0 y1 y2 y3
          obtain ⟨wq, hwq⟩ : ∃ wq, (wr.alloc (.cells #[.int .i64 ah, .int .i64 af, .int .i64 au] 27)).alloc (.cells #[.int .i64 bh, .int .i64 bf1, .int .i64 bu] 27) = wq := ⟨_, rfl⟩
          rw [hwq] at KA KB HBq qg3 hwz ⊢
          clear hwq
          obtain ⟨n1, hn1⟩ : ∃ n1, wr.heap.size = n1 := ⟨_, rfl⟩
          obtain ⟨n2, hn2⟩ : ∃ n2, wr.heap.size + 1 = n2 := ⟨_, rfl⟩
          rw [hn1] at KA
          rw [hn2] at KB
          rw [hn2, hn1]
          clear hn1 hn2 hwz hbl
          have a0 := KA.out.c 0 rfl
          have a1 := KA.out.c 1 rfl
          have a2 := KA.out.c 2 rfl
          have c0 := KB.out.c 0 rfl
          have c1 := KB.out.c 1 rfl
          have c2 := KB.out.c 2 rfl
          clear hsz
          by_cases hh : ah = bh
          · have q : (ah != bh) = false := by simpa using hh
            clear hh
            go_quiet (fail)
            go_wp2
            go_roundw
            case rel => exact ⟨j + 1, by omega, by go_num, Lib.hid (HBq.out.trans (below_drewN' _ _ _))⟩
            case measure => simp [intOf]; omega
          · have q : (ah != bh) = true := by simpa using hh
            have hle := HP.out hh
            have HH1 := Lib.hid (ho_no (f := af) hle)
            have qt : IntKind.i64.wrap tm = tm := IntWalk.i64_in _ (by omega)
            cases hb1 : hoB af au tm
            · have HH2 := Lib.hid hb1
              clear hb1 hle hh
              obtain ⟨lit, hlit⟩ : ∃ lit : (Nat → Value) → Act, lit = fun vs => { tmps := #[Value.bool false, Value.slice a T.length cap, Value.int IntKind.u32 tm, undef, undef, undef, u6, Value.bool true, Value.int IntKind.i64 2, lv, Value.slice (some { block := b, off := off }) G.length gc, Value.int IntKind.i64 now, Value.bool true, Value.int IntKind.i64 (i : Int), Value.int IntKind.i64 (j : Int), Value.pointer (some { block := n1, off := 0 }), Value.pointer (some { block := n2, off := 0 }), Value.bool true, Value.slice a T.length cap, Value.int IntKind.i64 (T.length : Int), Value.bool (decide ((60 : Int) < (T.length : Int))), undef, Value.bool false, Value.tuple #[lv, Value.slice (some { block := b, off := off }) G.length gc, Value.int IntKind.i64 now, Value.bool true], Value.int IntKind.i64 2, Value.slice a T.length cap, Value.tuple #[lv, Value.slice (some { block := b, off := off }) G.length gc, Value.int IntKind.i64 now, Value.bool true], lv, Value.slice (some { block := b, off := off }) G.length gc, Value.int IntKind.i64 now, Value.bool true, Value.bool true, Value.bool false, Value.int IntKind.i64 (i : Int), Value.slice (some { block := b, off := off }) G.length gc, Value.int IntKind.i64 (G.length : Int), Value.bool true, u37, u38, Value.int IntKind.i64 (j : Int), Value.int IntKind.i64 (i : Int), Value.bool true, u42, u43, Value.slice (some { block := b, off := off }) G.length gc, Value.int IntKind.i64 (j : Int), Value.pointer (some { block := b, off := off + j * 4 }), Value.pointer (some { block := b, off := off + j * 4 }), Value.agg #[Value.int IntKind.i64 ah, Value.int IntKind.i64 af, Value.int IntKind.i64 au], Value.slice (some { block := b, off := off }) G.length gc, Value.int IntKind.i64 (i : Int), Value.pointer (some { block := b, off := off + i * 4 }), Value.pointer (some { block := b, off := off + i * 4 }), Value.agg #[Value.int IntKind.i64 bh, Value.int IntKind.i64 bf1, Value.int IntKind.i64 bu], vs 0, vs 1, vs 2, vs 3, vs 4, vs 5, vs 6, vs 7, vs 8, vs 9, vs 10, vs 11, vs 12, vs 13, vs 14, vs 15, vs 16, vs 17, vs 18, vs 19, vs 20, vs 21, vs 22, vs 23, vs 24, vs 25, vs 26, vs 27, vs 28, vs 29, vs 30, vs 31, vs 32, vs 33, vs 34, vs 35, undef], defers := [] } := ⟨_, rfl⟩
              have HLIT := Lib.hid hlit
              clear hlit
              obtain ⟨val, hval⟩ : ∃ val : List Value, val = [.pointer (some ⟨n1, 0, none⟩), .int .i64 ah, .pointer (some ⟨n2, 0, none⟩), .int .i64 bh, .bool true, .bool true, .agg #[.int .i64 ah, .int .i64 af, .int .i64 au], .slice (some ⟨b, off, none⟩) G.length gc, .int .i64 i, .pointer (some ⟨b, off + i * 4, none⟩), .pointer (some ⟨b, off + i * 4 + 3, none⟩), .int .i64 bt, .bool false, .bool false, .agg #[.int .i64 ah, .int .i64 af, .int .i64 au], .int .u32 tm, .int .i64 tm, .bool false, .bool false, undef, undef, undef, undef, .bool false, .bool false, undef, undef, undef, undef, undef, undef, undef, undef, .bool false, .bool false, .bool false] := ⟨_, rfl⟩
              have E0 := Lib.hid (show val.getD 0 undef = .pointer (some ⟨n1, 0, none⟩) by rw [hval]; rfl)
              have E1 := Lib.hid (show val.getD 1 undef = .int .i64 ah by rw [hval]; rfl)
              have E2 := Lib.hid (show val.getD 2 undef = .pointer (some ⟨n2, 0, none⟩) by rw [hval]; rfl)
              have E3 := Lib.hid (show val.getD 3 undef = .int .i64 bh by rw [hval]; rfl)
              have E4 := Lib.hid (show val.getD 4 undef = .bool true by rw [hval]; rfl)
              have E5 := Lib.hid (show val.getD 5 undef = .bool true by rw [hval]; rfl)
              have E6 := Lib.hid (show val.getD 6 undef = .agg #[.int .i64 ah, .int .i64 af, .int .i64 au] by rw [hval]; rfl)
              have E7 := Lib.hid (show val.getD 7 undef = .slice (some ⟨b, off, none⟩) G.length gc by rw [hval]; rfl)
              have E8 := Lib.hid (show val.getD 8 undef = .int .i64 i by rw [hval]; rfl)
              have E9 := Lib.hid (show val.getD 9 undef = .pointer (some ⟨b, off + i * 4, none⟩) by rw [hval]; rfl)
              have E10 := Lib.hid (show val.getD 10 undef = .pointer (some ⟨b, off + i * 4 + 3, none⟩) by rw [hval]; rfl)
              have E11 := Lib.hid (show val.getD 11 undef = .int .i64 bt by rw [hval]; rfl)
              have E12 := Lib.hid (show val.getD 12 undef = .bool false by rw [hval]; rfl)
              have E13 := Lib.hid (show val.getD 13 undef = .bool false by rw [hval]; rfl)
              have E14 := Lib.hid (show val.getD 14 undef = .agg #[.int .i64 ah, .int .i64 af, .int .i64 au] by rw [hval]; rfl)
              have E15 := Lib.hid (show val.getD 15 undef = .int .u32 tm by rw [hval]; rfl)
              have E16 := Lib.hid (show val.getD 16 undef = .int .i64 tm by rw [hval]; rfl)
              have E17 := Lib.hid (show val.getD 17 undef = .bool false by rw [hval]; rfl)
              have E18 := Lib.hid (show val.getD 18 undef = .bool false by rw [hval]; rfl)
              have E19 := Lib.hid (show val.getD 19 undef = undef by rw [hval]; rfl)
              have E20 := Lib.hid (show val.getD 20 undef = undef by rw [hval]; rfl)
              have E21 := Lib.hid (show val.getD 21 undef = undef by rw [hval]; rfl)
              have E22 := Lib.hid (show val.getD 22 undef = undef by rw [hval]; rfl)
              have E23 := Lib.hid (show val.getD 23 undef = .bool false by rw [hval]; rfl)
              have E24 := Lib.hid (show val.getD 24 undef = .bool false by rw [hval]; rfl)
              have E25 := Lib.hid (show val.getD 25 undef = undef by rw [hval]; rfl)
              have E26 := Lib.hid (show val.getD 26 undef = undef by rw [hval]; rfl)
              have E27 := Lib.hid (show val.getD 27 undef = undef by rw [hval]; rfl)
              have E28 := Lib.hid (show val.getD 28 undef = undef by rw [hval]; rfl)
              have E29 := Lib.hid (show val.getD 29 undef = undef by rw [hval]; rfl)
              have E30 := Lib.hid (show val.getD 30 undef = undef by rw [hval]; rfl)
              have E31 := Lib.hid (show val.getD 31 undef = undef by rw [hval]; rfl)
              have E32 := Lib.hid (show val.getD 32 undef = undef by rw [hval]; rfl)
              have E33 := Lib.hid (show val.getD 33 undef = .bool false by rw [hval]; rfl)
              have E34 := Lib.hid (show val.getD 34 undef = .bool false by rw [hval]; rfl)
              have E35 := Lib.hid (show val.getD 35 undef = .bool false by rw [hval]; rfl)
              clear hval
              refine region_inv (fun bf ac wv => ∃ vs : Nat → Value, ac = lit vs ∧ Below wq.heap.size wq wv ∧ ∀ i, bf i = true → vs i = val.getD i undef) (by kernel_rfl) (by decide +kernel) ?_ ?_ ?_
              · exact ⟨fun i => ([u54, u55, u56, u57, u58, u59, u60, u61, u62, u63, u64, u65, u66, u67, u68, u69, u70, u71, u72, u73, u74, u75, u76, u77, u78, u79, u80, u81, u82, u83, u84, u85, u86, u87, u88, u89] : List Value).getD i undef, (by rw [HLIT.out]; rfl), below_drew _ _, fun i h => by cases h⟩
              · refine ⟨?_, ?_, ?_, ?_, ?_, ?_, ?_, ?_, ?_, ?_, ?_, ?_, ?_, ?_, ?_, ?_, ?_, ?_, ?_, ?_, ?_, ?_, ?_, ?_, ?_, ?_, ?_, ?_, ?_, ?_, ?_, ?_, ?_, ?_, ?_, ?_, trivial⟩
                · intro bf ac wv hfb haf hJ K' hK
                  obtain ⟨vs, rfl, hM, hG⟩ := hJ
                  replace hK := Lib.hid hK
                  replace hM := Lib.hid hM
                  replace hG := Lib.hid hG
                  clear haf
                  clear hfb
                  rw [HLIT.out]
                  go_simp
                  exact hK.out _ _ ⟨(upv vs 0 (.pointer (some ⟨n1, 0, none⟩))), (by rw [HLIT.out]; rfl), hM.out, up_val 0 hG.out E0.out⟩
                · intro bf ac wv hfb haf hJ K' hK
                  obtain ⟨vs, rfl, hM, hG⟩ := hJ
                  replace hK := Lib.hid hK
                  replace hM := Lib.hid hM
                  simp [Region.binds] at haf
                  have e0 := (hG 0 (by simp [haf])).trans E0.out
                  replace hG := Lib.hid hG
                  clear haf
                  clear hfb
                  rw [HLIT.out]
                  have KA1 := KA.out.step hM.out
                  have xa0 := KA1.c 0 rfl
                  have xa1 := KA1.c 1 rfl
                  have xa2 := KA1.c 2 rfl
                  have xaz := KA1.2.2
                  clear KA1
                  go_simp
                  exact hK.out _ _ ⟨(upv vs 1 (.int .i64 ah)), (by rw [HLIT.out]; simp only [upv, e0, Nat.reduceBEq, cond_true, cond_false]), hM.out, up_val 1 hG.out E1.out⟩
                · intro bf ac wv hfb haf hJ K' hK
                  obtain ⟨vs, rfl, hM, hG⟩ := hJ
                  replace hK := Lib.hid hK
                  replace hM := Lib.hid hM
                  replace hG := Lib.hid hG
                  clear haf
                  clear hfb
                  rw [HLIT.out]
                  go_simp
                  exact hK.out _ _ ⟨(upv vs 2 (.pointer (some ⟨n2, 0, none⟩))), (by rw [HLIT.out]; rfl), hM.out, up_val 2 hG.out E2.out⟩
                · intro bf ac wv hfb haf hJ K' hK
                  obtain ⟨vs, rfl, hM, hG⟩ := hJ
                  replace hK := Lib.hid hK
                  replace hM := Lib.hid hM
                  simp [Region.binds] at haf
                  have e2 := (hG 2 (by simp [haf])).trans E2.out
                  replace hG := Lib.hid hG
                  clear haf
                  clear hfb
                  rw [HLIT.out]
                  have KB1 := KB.out.step hM.out
                  have xb0 := KB1.c 0 rfl
                  have xb1 := KB1.c 1 rfl
                  have xb2 := KB1.c 2 rfl
                  have xbz := KB1.2.2
                  clear KB1
                  go_simp
                  exact hK.out _ _ ⟨(upv vs 3 (.int .i64 bh)), (by rw [HLIT.out]; simp only [upv, e2, Nat.reduceBEq, cond_true, cond_false]), hM.out, up_val 3 hG.out E3.out⟩
                · intro bf ac wv hfb haf hJ K' hK
                  obtain ⟨vs, rfl, hM, hG⟩ := hJ
                  replace hK := Lib.hid hK
                  replace hM := Lib.hid hM
                  simp [Region.binds] at haf
                  have e1 := (hG 1 (by simp [haf])).trans E1.out
                  have e3 := (hG 3 (by simp [haf])).trans E3.out
                  replace hG := Lib.hid hG
                  clear haf
                  clear hfb
                  rw [HLIT.out]
                  go_simp
                  exact hK.out _ _ ⟨(upv vs 4 (.bool true)), (by rw [HLIT.out]; simp only [upv, e1, e3, Nat.reduceBEq, cond_true, cond_false]), hM.out, up_val 4 hG.out E4.out⟩
                · intro bf ac wv hfb haf hJ K' hK
                  obtain ⟨vs, rfl, hM, hG⟩ := hJ
                  replace hK := Lib.hid hK
                  replace hM := Lib.hid hM
                  simp [Region.binds] at haf
                  have e4 := (hG 4 (by simp [haf])).trans E4.out
                  replace hG := Lib.hid hG
                  clear haf
                  clear hfb
                  rw [HLIT.out]
                  go_simp
                  exact hK.out _ _ ⟨(upv vs 5 (.bool true)), (by rw [HLIT.out]; simp only [upv, e4, Nat.reduceBEq, cond_true, cond_false]), hM.out, up_val 5 hG.out E5.out⟩
                · intro bf ac wv hfb haf hJ K' hK
                  obtain ⟨vs, rfl, hM, hG⟩ := hJ
                  replace hK := Lib.hid hK
                  replace hM := Lib.hid hM
                  simp [Region.binds] at haf
                  have e5 := (hG 5 (by simp [haf])).trans E5.out
                  replace hG := Lib.hid hG
                  clear haf
                  clear hfb
                  rw [HLIT.out]
                  have KA1 := KA.out.step hM.out
                  have xa0 := KA1.c 0 rfl
                  have xa1 := KA1.c 1 rfl
                  have xa2 := KA1.c 2 rfl
                  have xaz := KA1.2.2
                  clear KA1
                  go_simp
                  exact hK.out _ _ ⟨(upv vs 6 (.agg #[.int .i64 ah, .int .i64 af, .int .i64 au])), (by rw [HLIT.out]; simp only [upv, e5, Nat.reduceBEq, cond_true, cond_false]), hM.out, up_val 6 hG.out E6.out⟩
                · intro bf ac wv hfb haf hJ K' hK
                  obtain ⟨vs, rfl, hM, hG⟩ := hJ
                  replace hK := Lib.hid hK
                  replace hM := Lib.hid hM
                  simp [Region.binds] at haf
                  have e5 := (hG 5 (by simp [haf])).trans E5.out
                  replace hG := Lib.hid hG
                  clear haf
                  clear hfb
                  rw [HLIT.out]
                  go_simp
                  exact hK.out _ _ ⟨(upv vs 7 (.slice (some ⟨b, off, none⟩) G.length gc)), (by rw [HLIT.out]; simp only [upv, e5, Nat.reduceBEq, cond_true, cond_false]), hM.out, up_val 7 hG.out E7.out⟩
                · intro bf ac wv hfb haf hJ K' hK
                  obtain ⟨vs, rfl, hM, hG⟩ := hJ
                  replace hK := Lib.hid hK
                  replace hM := Lib.hid hM
                  simp [Region.binds] at haf
                  have e5 := (hG 5 (by simp [haf])).trans E5.out
                  replace hG := Lib.hid hG
                  clear haf
                  clear hfb
                  rw [HLIT.out]
                  go_simp
                  exact hK.out _ _ ⟨(upv vs 8 (.int .i64 i)), (by rw [HLIT.out]; simp only [upv, e5, Nat.reduceBEq, cond_true, cond_false]), hM.out, up_val 8 hG.out E8.out⟩
                · intro bf ac wv hfb haf hJ K' hK
                  obtain ⟨vs, rfl, hM, hG⟩ := hJ
                  replace hK := Lib.hid hK
                  replace hM := Lib.hid hM
                  simp [Region.binds] at haf
                  have e5 := (hG 5 (by simp [haf])).trans E5.out
                  have e7 := (hG 7 (by simp [haf])).trans E7.out
                  have e8 := (hG 8 (by simp [haf])).trans E8.out
                  replace hG := Lib.hid hG
                  clear haf
                  clear hfb
                  rw [HLIT.out]
                  go_simp
                  exact hK.out _ _ ⟨(upv vs 9 (.pointer (some ⟨b, off + i * 4, none⟩))), (by rw [HLIT.out]; simp only [upv, e5, e7, e8, Nat.reduceBEq, cond_true, cond_false]), hM.out, up_val 9 hG.out E9.out⟩
                · intro bf ac wv hfb haf hJ K' hK
                  obtain ⟨vs, rfl, hM, hG⟩ := hJ
                  replace hK := Lib.hid hK
                  replace hM := Lib.hid hM
                  simp [Region.binds] at haf
                  have e5 := (hG 5 (by simp [haf])).trans E5.out
                  have e9 := (hG 9 (by simp [haf])).trans E9.out
                  replace hG := Lib.hid hG
                  clear haf
                  clear hfb
                  rw [HLIT.out]
                  go_simp
                  exact hK.out _ _ ⟨(upv vs 10 (.pointer (some ⟨b, off + i * 4 + 3, none⟩))), (by rw [HLIT.out]; simp only [upv, e5, e9, Nat.reduceBEq, cond_true, cond_false]), hM.out, up_val 10 hG.out E10.out⟩
                · intro bf ac wv hfb haf hJ K' hK
                  obtain ⟨vs, rfl, hM, hG⟩ := hJ
                  replace hK := Lib.hid hK
                  replace hM := Lib.hid hM
                  simp [Region.binds] at haf
                  have e5 := (hG 5 (by simp [haf])).trans E5.out
                  have e10 := (hG 10 (by simp [haf])).trans E10.out
                  replace hG := Lib.hid hG
                  clear haf
                  clear hfb
                  rw [HLIT.out]
                  have xg := keep1 hM.out qg3
                  have xgz := World.block_lt_of_cell? _ _ xg
                  have xgz : b < wv.heap.size := xgz
                  go_simp
                  exact hK.out _ _ ⟨(upv vs 11 (.int .i64 bt)), (by rw [HLIT.out]; simp only [upv, e5, e10, Nat.reduceBEq, cond_true, cond_false]), hM.out, up_val 11 hG.out E11.out⟩
                · intro bf ac wv hfb haf hJ K' hK
                  obtain ⟨vs, rfl, hM, hG⟩ := hJ
                  replace hK := Lib.hid hK
                  replace hM := Lib.hid hM
                  simp [Region.binds] at haf
                  have e5 := (hG 5 (by simp [haf])).trans E5.out
                  have e6 := (hG 6 (by simp [haf])).trans E6.out
                  have e11 := (hG 11 (by simp [haf])).trans E11.out
                  replace hG := Lib.hid hG
                  clear haf
                  clear hfb
                  rw [HLIT.out]
                  go_simp
                  go_at_call 17
                  refine (holds_l _ _ _ _ _).mono ?_
                  rintro e w4 ⟨rfl, b4⟩
                  rw [HH1.out]
                  exact hK.out _ _ ⟨(upv vs 12 (.bool false)), (by rw [HLIT.out]; simp only [upv, e5, e6, e11, Nat.reduceBEq, cond_true, cond_false]), (keep2 b4 hM.out), up_val 12 hG.out E12.out⟩
                · intro bf ac wv hfb haf hJ K' hK
                  obtain ⟨vs, rfl, hM, hG⟩ := hJ
                  replace hK := Lib.hid hK
                  replace hM := Lib.hid hM
                  simp [Region.binds] at haf
                  have e5 := (hG 5 (by simp [haf])).trans E5.out
                  have e12 := (hG 12 (by simp [haf])).trans E12.out
                  replace hG := Lib.hid hG
                  clear haf
                  clear hfb
                  rw [HLIT.out]
                  go_simp
                  exact hK.out _ _ ⟨(upv vs 13 (.bool false)), (by rw [HLIT.out]; simp only [upv, e5, e12, Nat.reduceBEq, cond_true, cond_false]), hM.out, up_val 13 hG.out E13.out⟩
                · intro bf ac wv hfb haf hJ K' hK
                  obtain ⟨vs, rfl, hM, hG⟩ := hJ
                  replace hK := Lib.hid hK
                  replace hM := Lib.hid hM
                  simp [Region.binds] at haf
                  have e13 := (hG 13 (by simp [haf])).trans E13.out
                  replace hG := Lib.hid hG
                  clear haf
                  clear hfb
                  rw [HLIT.out]
                  have KA1 := KA.out.step hM.out
                  have xa0 := KA1.c 0 rfl
                  have xa1 := KA1.c 1 rfl
                  have xa2 := KA1.c 2 rfl
                  have xaz := KA1.2.2
                  clear KA1
                  go_simp
                  exact hK.out _ _ ⟨(upv vs 14 (.agg #[.int .i64 ah, .int .i64 af, .int .i64 au])), (by rw [HLIT.out]; simp only [upv, e13, Nat.reduceBEq, cond_true, cond_false]), hM.out, up_val 14 hG.out E14.out⟩
                · intro bf ac wv hfb haf hJ K' hK
                  obtain ⟨vs, rfl, hM, hG⟩ := hJ
                  replace hK := Lib.hid hK
                  replace hM := Lib.hid hM
                  simp [Region.binds] at haf
                  have e13 := (hG 13 (by simp [haf])).trans E13.out
                  replace hG := Lib.hid hG
                  clear haf
                  clear hfb
                  rw [HLIT.out]
                  go_simp
                  exact hK.out _ _ ⟨(upv vs 15 (.int .u32 tm)), (by rw [HLIT.out]; simp only [upv, e13, Nat.reduceBEq, cond_true, cond_false]), hM.out, up_val 15 hG.out E15.out⟩
                · intro bf ac wv hfb haf hJ K' hK
                  obtain ⟨vs, rfl, hM, hG⟩ := hJ
                  replace hK := Lib.hid hK
                  replace hM := Lib.hid hM
                  simp [Region.binds] at haf
                  have e13 := (hG 13 (by simp [haf])).trans E13.out
                  have e15 := (hG 15 (by simp [haf])).trans E15.out
                  replace hG := Lib.hid hG
                  clear haf
                  clear hfb
                  rw [HLIT.out]
                  go_simp
                  exact hK.out _ _ ⟨(upv vs 16 (.int .i64 tm)), (by rw [HLIT.out]; simp only [upv, e13, e15, Nat.reduceBEq, cond_true, cond_false]), hM.out, up_val 16 hG.out E16.out⟩
                · intro bf ac wv hfb haf hJ K' hK
                  obtain ⟨vs, rfl, hM, hG⟩ := hJ
                  replace hK := Lib.hid hK
                  replace hM := Lib.hid hM
                  simp [Region.binds] at haf
                  have e13 := (hG 13 (by simp [haf])).trans E13.out
                  have e14 := (hG 14 (by simp [haf])).trans E14.out
                  have e16 := (hG 16 (by simp [haf])).trans E16.out
                  replace hG := Lib.hid hG
                  clear haf
                  clear hfb
                  rw [HLIT.out]
                  go_simp
                  go_at_call 17
                  refine (holds_l _ _ _ _ _).mono ?_
                  rintro e w4 ⟨rfl, b4⟩
                  rw [HH2.out]
                  exact hK.out _ _ ⟨(upv vs 17 (.bool false)), (by rw [HLIT.out]; simp only [upv, e13, e14, e16, Nat.reduceBEq, cond_true, cond_false]), (keep2 b4 hM.out), up_val 17 hG.out E17.out⟩
                · intro bf ac wv hfb haf hJ K' hK
                  obtain ⟨vs, rfl, hM, hG⟩ := hJ
                  replace hK := Lib.hid hK
                  replace hM := Lib.hid hM
                  simp [Region.binds] at haf
                  have e13 := (hG 13 (by simp [haf])).trans E13.out
                  have e17 := (hG 17 (by simp [haf])).trans E17.out
                  replace hG := Lib.hid hG
                  clear haf
                  clear hfb
                  rw [HLIT.out]
                  go_simp
                  exact hK.out _ _ ⟨(upv vs 18 (.bool false)), (by rw [HLIT.out]; simp only [upv, e13, e17, Nat.reduceBEq, cond_true, cond_false]), hM.out, up_val 18 hG.out E18.out⟩
                · intro bf ac wv hfb haf hJ K' hK
                  obtain ⟨vs, rfl, hM, hG⟩ := hJ
                  replace hK := Lib.hid hK
                  replace hM := Lib.hid hM
                  simp [Region.binds] at haf
                  have e18 := (hG 18 (by simp [haf])).trans E18.out
                  replace hG := Lib.hid hG
                  clear haf
                  clear hfb
                  rw [HLIT.out]
                  go_simp
                  exact hK.out _ _ ⟨(upv vs 19 (undef)), (by rw [HLIT.out]; simp only [upv, e18, Nat.reduceBEq, cond_true, cond_false]), hM.out, up_val 19 hG.out E19.out⟩
                · intro bf ac wv hfb haf hJ K' hK
                  obtain ⟨vs, rfl, hM, hG⟩ := hJ
                  replace hK := Lib.hid hK
                  replace hM := Lib.hid hM
                  simp [Region.binds] at haf
                  have e18 := (hG 18 (by simp [haf])).trans E18.out
                  replace hG := Lib.hid hG
                  clear haf
                  clear hfb
                  rw [HLIT.out]
                  go_simp
                  exact hK.out _ _ ⟨(upv vs 20 (undef)), (by rw [HLIT.out]; simp only [upv, e18, Nat.reduceBEq, cond_true, cond_false]), hM.out, up_val 20 hG.out E20.out⟩
                · intro bf ac wv hfb haf hJ K' hK
                  obtain ⟨vs, rfl, hM, hG⟩ := hJ
                  replace hK := Lib.hid hK
                  replace hM := Lib.hid hM
                  simp [Region.binds] at haf
                  have e18 := (hG 18 (by simp [haf])).trans E18.out
                  replace hG := Lib.hid hG
                  clear haf
                  clear hfb
                  rw [HLIT.out]
                  go_simp
                  exact hK.out _ _ ⟨(upv vs 21 (undef)), (by rw [HLIT.out]; simp only [upv, e18, Nat.reduceBEq, cond_true, cond_false]), hM.out, up_val 21 hG.out E21.out⟩
                · intro bf ac wv hfb haf hJ K' hK
                  obtain ⟨vs, rfl, hM, hG⟩ := hJ
                  replace hK := Lib.hid hK
                  replace hM := Lib.hid hM
                  simp [Region.binds] at haf
                  have e18 := (hG 18 (by simp [haf])).trans E18.out
                  replace hG := Lib.hid hG
                  clear haf
                  clear hfb
                  rw [HLIT.out]
                  go_simp
                  exact hK.out _ _ ⟨(upv vs 22 (undef)), (by rw [HLIT.out]; simp only [upv, e18, Nat.reduceBEq, cond_true, cond_false]), hM.out, up_val 22 hG.out E22.out⟩
                · intro bf ac wv hfb haf hJ K' hK
                  obtain ⟨vs, rfl, hM, hG⟩ := hJ
                  replace hK := Lib.hid hK
                  replace hM := Lib.hid hM
                  simp [Region.binds] at haf
                  have e13 := (hG 13 (by simp [haf])).trans E13.out
                  have e18 := (hG 18 (by simp [haf])).trans E18.out
                  have e22 := (hG 22 (by simp [haf])).trans E22.out
                  replace hG := Lib.hid hG
                  clear haf
                  clear hfb
                  rw [HLIT.out]
                  go_simp
                  exact hK.out _ _ ⟨(upv vs 23 (.bool false)), (by rw [HLIT.out]; simp only [upv, e13, e18, e22, Nat.reduceBEq, cond_true, cond_false]), hM.out, up_val 23 hG.out E23.out⟩
                · intro bf ac wv hfb haf hJ K' hK
                  obtain ⟨vs, rfl, hM, hG⟩ := hJ
                  replace hK := Lib.hid hK
                  replace hM := Lib.hid hM
                  simp [Region.binds] at haf
                  have e13 := (hG 13 (by simp [haf])).trans E13.out
                  have e23 := (hG 23 (by simp [haf])).trans E23.out
                  replace hG := Lib.hid hG
                  clear haf
                  clear hfb
                  rw [HLIT.out]
                  go_simp
                  exact hK.out _ _ ⟨(upv vs 24 (.bool false)), (by rw [HLIT.out]; simp only [upv, e13, e23, Nat.reduceBEq, cond_true, cond_false]), hM.out, up_val 24 hG.out E24.out⟩
                · intro bf ac wv hfb haf hJ K' hK
                  obtain ⟨vs, rfl, hM, hG⟩ := hJ
                  replace hK := Lib.hid hK
                  replace hM := Lib.hid hM
                  simp [Region.binds] at haf
                  have e24 := (hG 24 (by simp [haf])).trans E24.out
                  replace hG := Lib.hid hG
                  clear haf
                  clear hfb
                  rw [HLIT.out]
                  go_simp
                  exact hK.out _ _ ⟨(upv vs 25 (undef)), (by rw [HLIT.out]; simp only [upv, e24, Nat.reduceBEq, cond_true, cond_false]), hM.out, up_val 25 hG.out E25.out⟩
                · intro bf ac wv hfb haf hJ K' hK
                  obtain ⟨vs, rfl, hM, hG⟩ := hJ
                  replace hK := Lib.hid hK
                  replace hM := Lib.hid hM
                  simp [Region.binds] at haf
                  have e24 := (hG 24 (by simp [haf])).trans E24.out
                  replace hG := Lib.hid hG
                  clear haf
                  clear hfb
                  rw [HLIT.out]
                  go_simp
                  exact hK.out _ _ ⟨(upv vs 26 (undef)), (by rw [HLIT.out]; simp only [upv, e24, Nat.reduceBEq, cond_true, cond_false]), hM.out, up_val 26 hG.out E26.out⟩
                · intro bf ac wv hfb haf hJ K' hK
                  obtain ⟨vs, rfl, hM, hG⟩ := hJ
                  replace hK := Lib.hid hK
                  replace hM := Lib.hid hM
                  simp [Region.binds] at haf
                  have e24 := (hG 24 (by simp [haf])).trans E24.out
                  replace hG := Lib.hid hG
                  clear haf
                  clear hfb
                  rw [HLIT.out]
                  go_simp
                  exact hK.out _ _ ⟨(upv vs 27 (undef)), (by rw [HLIT.out]; simp only [upv, e24, Nat.reduceBEq, cond_true, cond_false]), hM.out, up_val 27 hG.out E27.out⟩
                · intro bf ac wv hfb haf hJ K' hK
                  obtain ⟨vs, rfl, hM, hG⟩ := hJ
                  replace hK := Lib.hid hK
                  replace hM := Lib.hid hM
                  simp [Region.binds] at haf
                  have e24 := (hG 24 (by simp [haf])).trans E24.out
                  replace hG := Lib.hid hG
                  clear haf
                  clear hfb
                  rw [HLIT.out]
                  go_simp
                  exact hK.out _ _ ⟨(upv vs 28 (undef)), (by rw [HLIT.out]; simp only [upv, e24, Nat.reduceBEq, cond_true, cond_false]), hM.out, up_val 28 hG.out E28.out⟩
                · intro bf ac wv hfb haf hJ K' hK
                  obtain ⟨vs, rfl, hM, hG⟩ := hJ
                  replace hK := Lib.hid hK
                  replace hM := Lib.hid hM
                  simp [Region.binds] at haf
                  have e24 := (hG 24 (by simp [haf])).trans E24.out
                  replace hG := Lib.hid hG
                  clear haf
                  clear hfb
                  rw [HLIT.out]
                  go_simp
                  exact hK.out _ _ ⟨(upv vs 29 (undef)), (by rw [HLIT.out]; simp only [upv, e24, Nat.reduceBEq, cond_true, cond_false]), hM.out, up_val 29 hG.out E29.out⟩
                · intro bf ac wv hfb haf hJ K' hK
                  obtain ⟨vs, rfl, hM, hG⟩ := hJ
                  replace hK := Lib.hid hK
                  replace hM := Lib.hid hM
                  simp [Region.binds] at haf
                  have e24 := (hG 24 (by simp [haf])).trans E24.out
                  replace hG := Lib.hid hG
                  clear haf
                  clear hfb
                  rw [HLIT.out]
                  go_simp
                  exact hK.out _ _ ⟨(upv vs 30 (undef)), (by rw [HLIT.out]; simp only [upv, e24, Nat.reduceBEq, cond_true, cond_false]), hM.out, up_val 30 hG.out E30.out⟩
                · intro bf ac wv hfb haf hJ K' hK
                  obtain ⟨vs, rfl, hM, hG⟩ := hJ
                  replace hK := Lib.hid hK
                  replace hM := Lib.hid hM
                  simp [Region.binds] at haf
                  have e24 := (hG 24 (by simp [haf])).trans E24.out
                  replace hG := Lib.hid hG
                  clear haf
                  clear hfb
                  rw [HLIT.out]
                  go_simp
                  exact hK.out _ _ ⟨(upv vs 31 (undef)), (by rw [HLIT.out]; simp only [upv, e24, Nat.reduceBEq, cond_true, cond_false]), hM.out, up_val 31 hG.out E31.out⟩
                · intro bf ac wv hfb haf hJ K' hK
                  obtain ⟨vs, rfl, hM, hG⟩ := hJ
                  replace hK := Lib.hid hK
                  replace hM := Lib.hid hM
                  simp [Region.binds] at haf
                  have e24 := (hG 24 (by simp [haf])).trans E24.out
                  replace hG := Lib.hid hG
                  clear haf
                  clear hfb
                  rw [HLIT.out]
                  go_simp
                  exact hK.out _ _ ⟨(upv vs 32 (undef)), (by rw [HLIT.out]; simp only [upv, e24, Nat.reduceBEq, cond_true, cond_false]), hM.out, up_val 32 hG.out E32.out⟩
                · intro bf ac wv hfb haf hJ K' hK
                  obtain ⟨vs, rfl, hM, hG⟩ := hJ
                  replace hK := Lib.hid hK
                  replace hM := Lib.hid hM
                  simp [Region.binds] at haf
                  have e13 := (hG 13 (by simp [haf])).trans E13.out
                  have e24 := (hG 24 (by simp [haf])).trans E24.out
                  have e32 := (hG 32 (by simp [haf])).trans E32.out
                  replace hG := Lib.hid hG
                  clear haf
                  clear hfb
                  rw [HLIT.out]
                  go_simp
                  exact hK.out _ _ ⟨(upv vs 33 (.bool false)), (by rw [HLIT.out]; simp only [upv, e13, e24, e32, Nat.reduceBEq, cond_true, cond_false]), hM.out, up_val 33 hG.out E33.out⟩
                · intro bf ac wv hfb haf hJ K' hK
                  obtain ⟨vs, rfl, hM, hG⟩ := hJ
                  replace hK := Lib.hid hK
                  replace hM := Lib.hid hM
                  simp [Region.binds] at haf
                  have e5 := (hG 5 (by simp [haf])).trans E5.out
                  have e13 := (hG 13 (by simp [haf])).trans E13.out
                  have e33 := (hG 33 (by simp [haf])).trans E33.out
                  replace hG := Lib.hid hG
                  clear haf
                  clear hfb
                  rw [HLIT.out]
                  go_simp
                  exact hK.out _ _ ⟨(upv vs 34 (.bool false)), (by rw [HLIT.out]; simp only [upv, e5, e13, e33, Nat.reduceBEq, cond_true, cond_false]), hM.out, up_val 34 hG.out E34.out⟩
                · intro bf ac wv hfb haf hJ K' hK
                  obtain ⟨vs, rfl, hM, hG⟩ := hJ
                  replace hK := Lib.hid hK
                  replace hM := Lib.hid hM
                  simp [Region.binds] at haf
                  have e5 := (hG 5 (by simp [haf])).trans E5.out
                  have e34 := (hG 34 (by simp [haf])).trans E34.out
                  replace hG := Lib.hid hG
                  clear haf
                  clear hfb
                  rw [HLIT.out]
                  go_simp
                  exact hK.out _ _ ⟨(upv vs 35 (.bool false)), (by rw [HLIT.out]; simp only [upv, e5, e34, Nat.reduceBEq, cond_true, cond_false]), hM.out, up_val 35 hG.out E35.out⟩
              · intro bf ac wv hall hJ
                obtain ⟨vs, rfl, hM, hG⟩ := hJ
                have e35 := (hG 35 (hall 35 (by decide))).trans E35.out
                have HB9 := Lib.hid (keep2 hM HBq.out)
                clear hM hall hG
                rw [HLIT.out]
                go_wp2
                go_roundw
                case rel => exact ⟨j + 1, by omega, by go_num, HB9⟩
                case measure => simp [intOf]; omega
            · have HH2 := Lib.hid hb1
              have hlt2 := ho_lt hb1
              have d : decide (bt ≤ tm) = false := by simp; omega
              clear hb1 hle hh hlt2
              cases hb2 : hoB bf1 bu tm
              · have HH3 := Lib.hid hb2
                clear hb2
                obtain ⟨lit, hlit⟩ : ∃ lit : (Nat → Value) → Act, lit = fun vs => { tmps := #[Value.bool false, Value.slice a T.length cap, Value.int IntKind.u32 tm, undef, undef, undef, u6, Value.bool true, Value.int IntKind.i64 2, lv, Value.slice (some { block := b, off := off }) G.length gc, Value.int IntKind.i64 now, Value.bool true, Value.int IntKind.i64 (i : Int), Value.int IntKind.i64 (j : Int), Value.pointer (some { block := n1, off := 0 }), Value.pointer (some { block := n2, off := 0 }), Value.bool true, Value.slice a T.length cap, Value.int IntKind.i64 (T.length : Int), Value.bool (decide ((60 : Int) < (T.length : Int))), undef, Value.bool false, Value.tuple #[lv, Value.slice (some { block := b, off := off }) G.length gc, Value.int IntKind.i64 now, Value.bool true], Value.int IntKind.i64 2, Value.slice a T.length cap, Value.tuple #[lv, Value.slice (some { block := b, off := off }) G.length gc, Value.int IntKind.i64 now, Value.bool true], lv, Value.slice (some { block := b, off := off }) G.length gc, Value.int IntKind.i64 now, Value.bool true, Value.bool true, Value.bool false, Value.int IntKind.i64 (i : Int), Value.slice (some { block := b, off := off }) G.length gc, Value.int IntKind.i64 (G.length : Int), Value.bool true, u37, u38, Value.int IntKind.i64 (j : Int), Value.int IntKind.i64 (i : Int), Value.bool true, u42, u43, Value.slice (some { block := b, off := off }) G.length gc, Value.int IntKind.i64 (j : Int), Value.pointer (some { block := b, off := off + j * 4 }), Value.pointer (some { block := b, off := off + j * 4 }), Value.agg #[Value.int IntKind.i64 ah, Value.int IntKind.i64 af, Value.int IntKind.i64 au], Value.slice (some { block := b, off := off }) G.length gc, Value.int IntKind.i64 (i : Int), Value.pointer (some { block := b, off := off + i * 4 }), Value.pointer (some { block := b, off := off + i * 4 }), Value.agg #[Value.int IntKind.i64 bh, Value.int IntKind.i64 bf1, Value.int IntKind.i64 bu], vs 0, vs 1, vs 2, vs 3, vs 4, vs 5, vs 6, vs 7, vs 8, vs 9, vs 10, vs 11, vs 12, vs 13, vs 14, vs 15, vs 16, vs 17, vs 18, vs 19, vs 20, vs 21, vs 22, vs 23, vs 24, vs 25, vs 26, vs 27, vs 28, vs 29, vs 30, vs 31, vs 32, vs 33, vs 34, vs 35, undef], defers := [] } := ⟨_, rfl⟩
                have HLIT := Lib.hid hlit
                clear hlit
                obtain ⟨val, hval⟩ : ∃ val : List Value, val = [.pointer (some ⟨n1, 0, none⟩), .int .i64 ah, .pointer (some ⟨n2, 0, none⟩), .int .i64 bh, .bool true, .bool true, .agg #[.int .i64 ah, .int .i64 af, .int .i64 au], .slice (some ⟨b, off, none⟩) G.length gc, .int .i64 i, .pointer (some ⟨b, off + i * 4, none⟩), .pointer (some ⟨b, off + i * 4 + 3, none⟩), .int .i64 bt, .bool false, .bool false, .agg #[.int .i64 ah, .int .i64 af, .int .i64 au], .int .u32 tm, .int .i64 tm, .bool true, .bool true, .agg #[.int .i64 bh, .int .i64 bf1, .int .i64 bu], .int .u32 tm, .int .i64 tm, .bool false, .bool false, .bool false, undef, undef, undef, undef, undef, undef, undef, undef, .bool false, .bool false, .bool false] := ⟨_, rfl⟩
                have E0 := Lib.hid (show val.getD 0 undef = .pointer (some ⟨n1, 0, none⟩) by rw [hval]; rfl)
                have E1 := Lib.hid (show val.getD 1 undef = .int .i64 ah by rw [hval]; rfl)
                have E2 := Lib.hid (show val.getD 2 undef = .pointer (some ⟨n2, 0, none⟩) by rw [hval]; rfl)
                have E3 := Lib.hid (show val.getD 3 undef = .int .i64 bh by rw [hval]; rfl)
                have E4 := Lib.hid (show val.getD 4 undef = .bool true by rw [hval]; rfl)
                have E5 := Lib.hid (show val.getD 5 undef = .bool true by rw [hval]; rfl)
                have E6 := Lib.hid (show val.getD 6 undef = .agg #[.int .i64 ah, .int .i64 af, .int .i64 au] by rw [hval]; rfl)
                have E7 := Lib.hid (show val.getD 7 undef = .slice (some ⟨b, off, none⟩) G.length gc by rw [hval]; rfl)
                have E8 := Lib.hid (show val.getD 8 undef = .int .i64 i by rw [hval]; rfl)
                have E9 := Lib.hid (show val.getD 9 undef = .pointer (some ⟨b, off + i * 4, none⟩) by rw [hval]; rfl)
                have E10 := Lib.hid (show val.getD 10 undef = .pointer (some ⟨b, off + i * 4 + 3, none⟩) by rw [hval]; rfl)
                have E11 := Lib.hid (show val.getD 11 undef = .int .i64 bt by rw [hval]; rfl)
                have E12 := Lib.hid (show val.getD 12 undef = .bool false by rw [hval]; rfl)
                have E13 := Lib.hid (show val.getD 13 undef = .bool false by rw [hval]; rfl)
                have E14 := Lib.hid (show val.getD 14 undef = .agg #[.int .i64 ah, .int .i64 af, .int .i64 au] by rw [hval]; rfl)
                have E15 := Lib.hid (show val.getD 15 undef = .int .u32 tm by rw [hval]; rfl)
                have E16 := Lib.hid (show val.getD 16 undef = .int .i64 tm by rw [hval]; rfl)
                have E17 := Lib.hid (show val.getD 17 undef = .bool true by rw [hval]; rfl)
                have E18 := Lib.hid (show val.getD 18 undef = .bool true by rw [hval]; rfl)
                have E19 := Lib.hid (show val.getD 19 undef = .agg #[.int .i64 bh, .int .i64 bf1, .int .i64 bu] by rw [hval]; rfl)
                have E20 := Lib.hid (show val.getD 20 undef = .int .u32 tm by rw [hval]; rfl)
                have E21 := Lib.hid (show val.getD 21 undef = .int .i64 tm by rw [hval]; rfl)
                have E22 := Lib.hid (show val.getD 22 undef = .bool false by rw [hval]; rfl)
                have E23 := Lib.hid (show val.getD 23 undef = .bool false by rw [hval]; rfl)
                have E24 := Lib.hid (show val.getD 24 undef = .bool false by rw [hval]; rfl)
                have E25 := Lib.hid (show val.getD 25 undef = undef by rw [hval]; rfl)
                have E26 := Lib.hid (show val.getD 26 undef = undef by rw [hval]; rfl)
                have E27 := Lib.hid (show val.getD 27 undef = undef by rw [hval]; rfl)
                have E28 := Lib.hid (show val.getD 28 undef = undef by rw [hval]; rfl)
                have E29 := Lib.hid (show val.getD 29 undef = undef by rw [hval]; rfl)
                have E30 := Lib.hid (show val.getD 30 undef = undef by rw [hval]; rfl)
                have E31 := Lib.hid (show val.getD 31 undef = undef by rw [hval]; rfl)
                have E32 := Lib.hid (show val.getD 32 undef = undef by rw [hval]; rfl)
                have E33 := Lib.hid (show val.getD 33 undef = .bool false by rw [hval]; rfl)
                have E34 := Lib.hid (show val.getD 34 undef = .bool false by rw [hval]; rfl)
                have E35 := Lib.hid (show val.getD 35 undef = .bool false by rw [hval]; rfl)
                clear hval
                refine region_inv (fun bf ac wv => ∃ vs : Nat → Value, ac = lit vs ∧ Below wq.heap.size wq wv ∧ ∀ i, bf i = true → vs i = val.getD i undef) (by kernel_rfl) (by decide +kernel) ?_ ?_ ?_
                · exact ⟨fun i => ([u54, u55, u56, u57, u58, u59, u60, u61, u62, u63, u64, u65, u66, u67, u68, u69, u70, u71, u72, u73, u74, u75, u76, u77, u78, u79, u80, u81, u82, u83, u84, u85, u86, u87, u88, u89] : List Value).getD i undef, (by rw [HLIT.out]; rfl), below_drew _ _, fun i h => by cases h⟩
                · refine ⟨?_, ?_, ?_, ?_, ?_, ?_, ?_, ?_, ?_, ?_, ?_, ?_, ?_, ?_, ?_, ?_, ?_, ?_, ?_, ?_, ?_, ?_, ?_, ?_, ?_, ?_, ?_, ?_, ?_, ?_, ?_, ?_, ?_, ?_, ?_, ?_, trivial⟩
                  · intro bf ac wv hfb haf hJ K' hK
                    obtain ⟨vs, rfl, hM, hG⟩ := hJ
                    replace hK := Lib.hid hK
                    replace hM := Lib.hid hM
                    replace hG := Lib.hid hG
                    clear haf
                    clear hfb
                    rw [HLIT.out]
                    go_simp
                    exact hK.out _ _ ⟨(upv vs 0 (.pointer (some ⟨n1, 0, none⟩))), (by rw [HLIT.out]; rfl), hM.out, up_val 0 hG.out E0.out⟩
                  · intro bf ac wv hfb haf hJ K' hK
                    obtain ⟨vs, rfl, hM, hG⟩ := hJ
                    replace hK := Lib.hid hK
                    replace hM := Lib.hid hM
                    simp [Region.binds] at haf
                    have e0 := (hG 0 (by simp [haf])).trans E0.out
                    replace hG := Lib.hid hG
                    clear haf
                    clear hfb
                    rw [HLIT.out]
                    have KA1 := KA.out.step hM.out
                    have xa0 := KA1.c 0 rfl
                    have xa1 := KA1.c 1 rfl
                    have xa2 := KA1.c 2 rfl
                    have xaz := KA1.2.2
                    clear KA1
                    go_simp
                    exact hK.out _ _ ⟨(upv vs 1 (.int .i64 ah)), (by rw [HLIT.out]; simp only [upv, e0, Nat.reduceBEq, cond_true, cond_false]), hM.out, up_val 1 hG.out E1.out⟩
                  · intro bf ac wv hfb haf hJ K' hK
                    obtain ⟨vs, rfl, hM, hG⟩ := hJ
                    replace hK := Lib.hid hK
                    replace hM := Lib.hid hM
                    replace hG := Lib.hid hG
                    clear haf
                    clear hfb
                    rw [HLIT.out]
                    go_simp
                    exact hK.out _ _ ⟨(upv vs 2 (.pointer (some ⟨n2, 0, none⟩))), (by rw [HLIT.out]; rfl), hM.out, up_val 2 hG.out E2.out⟩
                  · intro bf ac wv hfb haf hJ K' hK
                    obtain ⟨vs, rfl, hM, hG⟩ := hJ
                    replace hK := Lib.hid hK
                    replace hM := Lib.hid hM
                    simp [Region.binds] at haf
                    have e2 := (hG 2 (by simp [haf])).trans E2.out
                    replace hG := Lib.hid hG
                    clear haf
                    clear hfb
                    rw [HLIT.out]
                    have KB1 := KB.out.step hM.out
                    have xb0 := KB1.c 0 rfl
                    have xb1 := KB1.c 1 rfl
                    have xb2 := KB1.c 2 rfl
                    have xbz := KB1.2.2
                    clear KB1
                    go_simp
                    exact hK.out _ _ ⟨(upv vs 3 (.int .i64 bh)), (by rw [HLIT.out]; simp only [upv, e2, Nat.reduceBEq, cond_true, cond_false]), hM.out, up_val 3 hG.out E3.out⟩
                  · intro bf ac wv hfb haf hJ K' hK
                    obtain ⟨vs, rfl, hM, hG⟩ := hJ
                    replace hK := Lib.hid hK
                    replace hM := Lib.hid hM
                    simp [Region.binds] at haf
                    have e1 := (hG 1 (by simp [haf])).trans E1.out
                    have e3 := (hG 3 (by simp [haf])).trans E3.out
                    replace hG := Lib.hid hG
                    clear haf
                    clear hfb
                    rw [HLIT.out]
                    go_simp
                    exact hK.out _ _ ⟨(upv vs 4 (.bool true)), (by rw [HLIT.out]; simp only [upv, e1, e3, Nat.reduceBEq, cond_true, cond_false]), hM.out, up_val 4 hG.out E4.out⟩
                  · intro bf ac wv hfb haf hJ K' hK
                    obtain ⟨vs, rfl, hM, hG⟩ := hJ
                    replace hK := Lib.hid hK
                    replace hM := Lib.hid hM
                    simp [Region.binds] at haf
                    have e4 := (hG 4 (by simp [haf])).trans E4.out
                    replace hG := Lib.hid hG
                    clear haf
                    clear hfb
                    rw [HLIT.out]
                    go_simp
                    exact hK.out _ _ ⟨(upv vs 5 (.bool true)), (by rw [HLIT.out]; simp only [upv, e4, Nat.reduceBEq, cond_true, cond_false]), hM.out, up_val 5 hG.out E5.out⟩
                  · intro bf ac wv hfb haf hJ K' hK
                    obtain ⟨vs, rfl, hM, hG⟩ := hJ
                    replace hK := Lib.hid hK
                    replace hM := Lib.hid hM
                    simp [Region.binds] at haf
                    have e5 := (hG 5 (by simp [haf])).trans E5.out
                    replace hG := Lib.hid hG
                    clear haf
                    clear hfb
                    rw [HLIT.out]
                    have KA1 := KA.out.step hM.out
                    have xa0 := KA1.c 0 rfl
                    have xa1 := KA1.c 1 rfl
                    have xa2 := KA1.c 2 rfl
                    have xaz := KA1.2.2
                    clear KA1
                    go_simp
                    exact hK.out _ _ ⟨(upv vs 6 (.agg #[.int .i64 ah, .int .i64 af, .int .i64 au])), (by rw [HLIT.out]; simp only [upv, e5, Nat.reduceBEq, cond_true, cond_false]), hM.out, up_val 6 hG.out E6.out⟩
                  · intro bf ac wv hfb haf hJ K' hK
                    obtain ⟨vs, rfl, hM, hG⟩ := hJ
                    replace hK := Lib.hid hK
                    replace hM := Lib.hid hM
                    simp [Region.binds] at haf
                    have e5 := (hG 5 (by simp [haf])).trans E5.out
                    replace hG := Lib.hid hG
                    clear haf
                    clear hfb
                    rw [HLIT.out]
                    go_simp
                    exact hK.out _ _ ⟨(upv vs 7 (.slice (some ⟨b, off, none⟩) G.length gc)), (by rw [HLIT.out]; simp only [upv, e5, Nat.reduceBEq, cond_true, cond_false]), hM.out, up_val 7 hG.out E7.out⟩
                  · intro bf ac wv hfb haf hJ K' hK
                    obtain ⟨vs, rfl, hM, hG⟩ := hJ
                    replace hK := Lib.hid hK
                    replace hM := Lib.hid hM
                    simp [Region.binds] at haf
                    have e5 := (hG 5 (by simp [haf])).trans E5.out
                    replace hG := Lib.hid hG
                    clear haf
                    clear hfb
                    rw [HLIT.out]
                    go_simp
                    exact hK.out _ _ ⟨(upv vs 8 (.int .i64 i)), (by rw [HLIT.out]; simp only [upv, e5, Nat.reduceBEq, cond_true, cond_false]), hM.out, up_val 8 hG.out E8.out⟩
                  · intro bf ac wv hfb haf hJ K' hK
                    obtain ⟨vs, rfl, hM, hG⟩ := hJ
                    replace hK := Lib.hid hK
                    replace hM := Lib.hid hM
                    simp [Region.binds] at haf
                    have e5 := (hG 5 (by simp [haf])).trans E5.out
                    have e7 := (hG 7 (by simp [haf])).trans E7.out
                    have e8 := (hG 8 (by simp [haf])).trans E8.out
                    replace hG := Lib.hid hG
                    clear haf
                    clear hfb
                    rw [HLIT.out]
                    go_simp
                    exact hK.out _ _ ⟨(upv vs 9 (.pointer (some ⟨b, off + i * 4, none⟩))), (by rw [HLIT.out]; simp only [upv, e5, e7, e8, Nat.reduceBEq, cond_true, cond_false]), hM.out, up_val 9 hG.out E9.out⟩
                  · intro bf ac wv hfb haf hJ K' hK
                    obtain ⟨vs, rfl, hM, hG⟩ := hJ
                    replace hK := Lib.hid hK
                    replace hM := Lib.hid hM
                    simp [Region.binds] at haf
                    have e5 := (hG 5 (by simp [haf])).trans E5.out
                    have e9 := (hG 9 (by simp [haf])).trans E9.out
                    replace hG := Lib.hid hG
                    clear haf
                    clear hfb
                    rw [HLIT.out]
                    go_simp
                    exact hK.out _ _ ⟨(upv vs 10 (.pointer (some ⟨b, off + i * 4 + 3, none⟩))), (by rw [HLIT.out]; simp only [upv, e5, e9, Nat.reduceBEq, cond_true, cond_false]), hM.out, up_val 10 hG.out E10.out⟩
                  · intro bf ac wv hfb haf hJ K' hK
                    obtain ⟨vs, rfl, hM, hG⟩ := hJ
                    replace hK := Lib.hid hK
                    replace hM := Lib.hid hM
                    simp [Region.binds] at haf
                    have e5 := (hG 5 (by simp [haf])).trans E5.out
                    have e10 := (hG 10 (by simp [haf])).trans E10.out
                    replace hG := Lib.hid hG
                    clear haf
                    clear hfb
                    rw [HLIT.out]
                    have xg := keep1 hM.out qg3
                    have xgz := World.block_lt_of_cell? _ _ xg
                    have xgz : b < wv.heap.size := xgz
                    go_simp
                    exact hK.out _ _ ⟨(upv vs 11 (.int .i64 bt)), (by rw [HLIT.out]; simp only [upv, e5, e10, Nat.reduceBEq, cond_true, cond_false]), hM.out, up_val 11 hG.out E11.out⟩
                  · intro bf ac wv hfb haf hJ K' hK
                    obtain ⟨vs, rfl, hM, hG⟩ := hJ
                    replace hK := Lib.hid hK
                    replace hM := Lib.hid hM
                    simp [Region.binds] at haf
                    have e5 := (hG 5 (by simp [haf])).trans E5.out
                    have e6 := (hG 6 (by simp [haf])).trans E6.out
                    have e11 := (hG 11 (by simp [haf])).trans E11.out
                    replace hG := Lib.hid hG
                    clear haf
                    clear hfb
                    rw [HLIT.out]
                    go_simp
                    go_at_call 17
                    refine (holds_l _ _ _ _ _).mono ?_
                    rintro e w4 ⟨rfl, b4⟩
                    rw [HH1.out]
                    exact hK.out _ _ ⟨(upv vs 12 (.bool false)), (by rw [HLIT.out]; simp only [upv, e5, e6, e11, Nat.reduceBEq, cond_true, cond_false]), (keep2 b4 hM.out), up_val 12 hG.out E12.out⟩
                  · intro bf ac wv hfb haf hJ K' hK
                    obtain ⟨vs, rfl, hM, hG⟩ := hJ
                    replace hK := Lib.hid hK
                    replace hM := Lib.hid hM
                    simp [Region.binds] at haf
                    have e5 := (hG 5 (by simp [haf])).trans E5.out
                    have e12 := (hG 12 (by simp [haf])).trans E12.out
                    replace hG := Lib.hid hG
                    clear haf
                    clear hfb
                    rw [HLIT.out]
                    go_simp
                    exact hK.out _ _ ⟨(upv vs 13 (.bool false)), (by rw [HLIT.out]; simp only [upv, e5, e12, Nat.reduceBEq, cond_true, cond_false]), hM.out, up_val 13 hG.out E13.out⟩
                  · intro bf ac wv hfb haf hJ K' hK
                    obtain ⟨vs, rfl, hM, hG⟩ := hJ
                    replace hK := Lib.hid hK
                    replace hM := Lib.hid hM
                    simp [Region.binds] at haf
                    have e13 := (hG 13 (by simp [haf])).trans E13.out
                    replace hG := Lib.hid hG
                    clear haf
                    clear hfb
                    rw [HLIT.out]
                    have KA1 := KA.out.step hM.out
                    have xa0 := KA1.c 0 rfl
                    have xa1 := KA1.c 1 rfl
                    have xa2 := KA1.c 2 rfl
                    have xaz := KA1.2.2
                    clear KA1
                    go_simp
                    exact hK.out _ _ ⟨(upv vs 14 (.agg #[.int .i64 ah, .int .i64 af, .int .i64 au])), (by rw [HLIT.out]; simp only [upv, e13, Nat.reduceBEq, cond_true, cond_false]), hM.out, up_val 14 hG.out E14.out⟩
                  · intro bf ac wv hfb haf hJ K' hK
                    obtain ⟨vs, rfl, hM, hG⟩ := hJ
                    replace hK := Lib.hid hK
                    replace hM := Lib.hid hM
                    simp [Region.binds] at haf
                    have e13 := (hG 13 (by simp [haf])).trans E13.out
                    replace hG := Lib.hid hG
                    clear haf
                    clear hfb
                    rw [HLIT.out]
                    go_simp
                    exact hK.out _ _ ⟨(upv vs 15 (.int .u32 tm)), (by rw [HLIT.out]; simp only [upv, e13, Nat.reduceBEq, cond_true, cond_false]), hM.out, up_val 15 hG.out E15.out⟩
                  · intro bf ac wv hfb haf hJ K' hK
                    obtain ⟨vs, rfl, hM, hG⟩ := hJ
                    replace hK := Lib.hid hK
                    replace hM := Lib.hid hM
                    simp [Region.binds] at haf
                    have e13 := (hG 13 (by simp [haf])).trans E13.out
                    have e15 := (hG 15 (by simp [haf])).trans E15.out
                    replace hG := Lib.hid hG
                    clear haf
                    clear hfb
                    rw [HLIT.out]
                    go_simp
                    exact hK.out _ _ ⟨(upv vs 16 (.int .i64 tm)), (by rw [HLIT.out]; simp only [upv, e13, e15, Nat.reduceBEq, cond_true, cond_false]), hM.out, up_val 16 hG.out E16.out⟩
                  · intro bf ac wv hfb haf hJ K' hK
                    obtain ⟨vs, rfl, hM, hG⟩ := hJ
                    replace hK := Lib.hid hK
                    replace hM := Lib.hid hM
                    simp [Region.binds] at haf
                    have e13 := (hG 13 (by simp [haf])).trans E13.out
                    have e14 := (hG 14 (by simp [haf])).trans E14.out
                    have e16 := (hG 16 (by simp [haf])).trans E16.out
                    replace hG := Lib.hid hG
                    clear haf
                    clear hfb
                    rw [HLIT.out]
                    go_simp
                    go_at_call 17
                    refine (holds_l _ _ _ _ _).mono ?_
                    rintro e w4 ⟨rfl, b4⟩
                    rw [HH2.out]
                    exact hK.out _ _ ⟨(upv vs 17 (.bool true)), (by rw [HLIT.out]; simp only [upv, e13, e14, e16, Nat.reduceBEq, cond_true, cond_false]), (keep2 b4 hM.out), up_val 17 hG.out E17.out⟩
                  · intro bf ac wv hfb haf hJ K' hK
                    obtain ⟨vs, rfl, hM, hG⟩ := hJ
                    replace hK := Lib.hid hK
                    replace hM := Lib.hid hM
                    simp [Region.binds] at haf
                    have e13 := (hG 13 (by simp [haf])).trans E13.out
                    have e17 := (hG 17 (by simp [haf])).trans E17.out
                    replace hG := Lib.hid hG
                    clear haf
                    clear hfb
                    rw [HLIT.out]
                    go_simp
                    exact hK.out _ _ ⟨(upv vs 18 (.bool true)), (by rw [HLIT.out]; simp only [upv, e13, e17, Nat.reduceBEq, cond_true, cond_false]), hM.out, up_val 18 hG.out E18.out⟩
                  · intro bf ac wv hfb haf hJ K' hK
                    obtain ⟨vs, rfl, hM, hG⟩ := hJ
                    replace hK := Lib.hid hK
                    replace hM := Lib.hid hM
                    simp [Region.binds] at haf
                    have e18 := (hG 18 (by simp [haf])).trans E18.out
                    replace hG := Lib.hid hG
                    clear haf
                    clear hfb
                    rw [HLIT.out]
                    have KB1 := KB.out.step hM.out
                    have xb0 := KB1.c 0 rfl
                    have xb1 := KB1.c 1 rfl
                    have xb2 := KB1.c 2 rfl
                    have xbz := KB1.2.2
                    clear KB1
                    go_simp
                    exact hK.out _ _ ⟨(upv vs 19 (.agg #[.int .i64 bh, .int .i64 bf1, .int .i64 bu])), (by rw [HLIT.out]; simp only [upv, e18, Nat.reduceBEq, cond_true, cond_false]), hM.out, up_val 19 hG.out E19.out⟩
                  · intro bf ac wv hfb haf hJ K' hK
                    obtain ⟨vs, rfl, hM, hG⟩ := hJ
                    replace hK := Lib.hid hK
                    replace hM := Lib.hid hM
                    simp [Region.binds] at haf
                    have e18 := (hG 18 (by simp [haf])).trans E18.out
                    replace hG := Lib.hid hG
                    clear haf
                    clear hfb
                    rw [HLIT.out]
                    go_simp
                    exact hK.out _ _ ⟨(upv vs 20 (.int .u32 tm)), (by rw [HLIT.out]; simp only [upv, e18, Nat.reduceBEq, cond_true, cond_false]), hM.out, up_val 20 hG.out E20.out⟩
                  · intro bf ac wv hfb haf hJ K' hK
                    obtain ⟨vs, rfl, hM, hG⟩ := hJ
                    replace hK := Lib.hid hK
                    replace hM := Lib.hid hM
                    simp [Region.binds] at haf
                    have e18 := (hG 18 (by simp [haf])).trans E18.out
                    have e20 := (hG 20 (by simp [haf])).trans E20.out
                    replace hG := Lib.hid hG
                    clear haf
                    clear hfb
                    rw [HLIT.out]
                    go_simp
                    exact hK.out _ _ ⟨(upv vs 21 (.int .i64 tm)), (by rw [HLIT.out]; simp only [upv, e18, e20, Nat.reduceBEq, cond_true, cond_false]), hM.out, up_val 21 hG.out E21.out⟩
                  · intro bf ac wv hfb haf hJ K' hK
                    obtain ⟨vs, rfl, hM, hG⟩ := hJ
                    replace hK := Lib.hid hK
                    replace hM := Lib.hid hM
                    simp [Region.binds] at haf
                    have e18 := (hG 18 (by simp [haf])).trans E18.out
                    have e19 := (hG 19 (by simp [haf])).trans E19.out
                    have e21 := (hG 21 (by simp [haf])).trans E21.out
                    replace hG := Lib.hid hG
                    clear haf
                    clear hfb
                    rw [HLIT.out]
                    go_simp
                    go_at_call 17
                    refine (holds_l _ _ _ _ _).mono ?_
                    rintro e w4 ⟨rfl, b4⟩
                    rw [HH3.out]
                    exact hK.out _ _ ⟨(upv vs 22 (.bool false)), (by rw [HLIT.out]; simp only [upv, e18, e19, e21, Nat.reduceBEq, cond_true, cond_false]), (keep2 b4 hM.out), up_val 22 hG.out E22.out⟩
                  · intro bf ac wv hfb haf hJ K' hK
                    obtain ⟨vs, rfl, hM, hG⟩ := hJ
                    replace hK := Lib.hid hK
                    replace hM := Lib.hid hM
                    simp [Region.binds] at haf
                    have e13 := (hG 13 (by simp [haf])).trans E13.out
                    have e18 := (hG 18 (by simp [haf])).trans E18.out
                    have e22 := (hG 22 (by simp [haf])).trans E22.out
                    replace hG := Lib.hid hG
                    clear haf
                    clear hfb
                    rw [HLIT.out]
                    go_simp
                    exact hK.out _ _ ⟨(upv vs 23 (.bool false)), (by rw [HLIT.out]; simp only [upv, e13, e18, e22, Nat.reduceBEq, cond_true, cond_false]), hM.out, up_val 23 hG.out E23.out⟩
                  · intro bf ac wv hfb haf hJ K' hK
                    obtain ⟨vs, rfl, hM, hG⟩ := hJ
                    replace hK := Lib.hid hK
                    replace hM := Lib.hid hM
                    simp [Region.binds] at haf
                    have e13 := (hG 13 (by simp [haf])).trans E13.out
                    have e23 := (hG 23 (by simp [haf])).trans E23.out
                    replace hG := Lib.hid hG
                    clear haf
                    clear hfb
                    rw [HLIT.out]
                    go_simp
                    exact hK.out _ _ ⟨(upv vs 24 (.bool false)), (by rw [HLIT.out]; simp only [upv, e13, e23, Nat.reduceBEq, cond_true, cond_false]), hM.out, up_val 24 hG.out E24.out⟩
                  · intro bf ac wv hfb haf hJ K' hK
                    obtain ⟨vs, rfl, hM, hG⟩ := hJ
                    replace hK := Lib.hid hK
                    replace hM := Lib.hid hM
                    simp [Region.binds] at haf
                    have e24 := (hG 24 (by simp [haf])).trans E24.out
                    replace hG := Lib.hid hG
                    clear haf
                    clear hfb
                    rw [HLIT.out]
                    go_simp
                    exact hK.out _ _ ⟨(upv vs 25 (undef)), (by rw [HLIT.out]; simp only [upv, e24, Nat.reduceBEq, cond_true, cond_false]), hM.out, up_val 25 hG.out E25.out⟩
                  · intro bf ac wv hfb haf hJ K' hK
                    obtain ⟨vs, rfl, hM, hG⟩ := hJ
                    replace hK := Lib.hid hK
                    replace hM := Lib.hid hM
                    simp [Region.binds] at haf
                    have e24 := (hG 24 (by simp [haf])).trans E24.out
                    replace hG := Lib.hid hG
                    clear haf
                    clear hfb
                    rw [HLIT.out]
                    go_simp
                    exact hK.out _ _ ⟨(upv vs 26 (undef)), (by rw [HLIT.out]; simp only [upv, e24, Nat.reduceBEq, cond_true, cond_false]), hM.out, up_val 26 hG.out E26.out⟩
                  · intro bf ac wv hfb haf hJ K' hK
                    obtain ⟨vs, rfl, hM, hG⟩ := hJ
                    replace hK := Lib.hid hK
                    replace hM := Lib.hid hM
                    simp [Region.binds] at haf
                    have e24 := (hG 24 (by simp [haf])).trans E24.out
                    replace hG := Lib.hid hG
                    clear haf
                    clear hfb
                    rw [HLIT.out]
                    go_simp
                    exact hK.out _ _ ⟨(upv vs 27 (undef)), (by rw [HLIT.out]; simp only [upv, e24, Nat.reduceBEq, cond_true, cond_false]), hM.out, up_val 27 hG.out E27.out⟩
                  · intro bf ac wv hfb haf hJ K' hK
                    obtain ⟨vs, rfl, hM, hG⟩ := hJ
                    replace hK := Lib.hid hK
                    replace hM := Lib.hid hM
                    simp [Region.binds] at haf
                    have e24 := (hG 24 (by simp [haf])).trans E24.out
                    replace hG := Lib.hid hG
                    clear haf
                    clear hfb
                    rw [HLIT.out]
                    go_simp
                    exact hK.out _ _ ⟨(upv vs 28 (undef)), (by rw [HLIT.out]; simp only [upv, e24, Nat.reduceBEq, cond_true, cond_false]), hM.out, up_val 28 hG.out E28.out⟩
                  · intro bf ac wv hfb haf hJ K' hK
                    obtain ⟨vs, rfl, hM, hG⟩ := hJ
                    replace hK := Lib.hid hK
                    replace hM := Lib.hid hM
                    simp [Region.binds] at haf
                    have e24 := (hG 24 (by simp [haf])).trans E24.out
                    replace hG := Lib.hid hG
                    clear haf
                    clear hfb
                    rw [HLIT.out]
                    go_simp
                    exact hK.out _ _ ⟨(upv vs 29 (undef)), (by rw [HLIT.out]; simp only [upv, e24, Nat.reduceBEq, cond_true, cond_false]), hM.out, up_val 29 hG.out E29.out⟩
                  · intro bf ac wv hfb haf hJ K' hK
                    obtain ⟨vs, rfl, hM, hG⟩ := hJ
                    replace hK := Lib.hid hK
                    replace hM := Lib.hid hM
                    simp [Region.binds] at haf
                    have e24 := (hG 24 (by simp [haf])).trans E24.out
                    replace hG := Lib.hid hG
                    clear haf
                    clear hfb
                    rw [HLIT.out]
                    go_simp
                    exact hK.out _ _ ⟨(upv vs 30 (undef)), (by rw [HLIT.out]; simp only [upv, e24, Nat.reduceBEq, cond_true, cond_false]), hM.out, up_val 30 hG.out E30.out⟩
                  · intro bf ac wv hfb haf hJ K' hK
                    obtain ⟨vs, rfl, hM, hG⟩ := hJ
                    replace hK := Lib.hid hK
                    replace hM := Lib.hid hM
                    simp [Region.binds] at haf
                    have e24 := (hG 24 (by simp [haf])).trans E24.out
                    replace hG := Lib.hid hG
                    clear haf
                    clear hfb
                    rw [HLIT.out]
                    go_simp
                    exact hK.out _ _ ⟨(upv vs 31 (undef)), (by rw [HLIT.out]; simp only [upv, e24, Nat.reduceBEq, cond_true, cond_false]), hM.out, up_val 31 hG.out E31.out⟩
                  · intro bf ac wv hfb haf hJ K' hK
                    obtain ⟨vs, rfl, hM, hG⟩ := hJ
                    replace hK := Lib.hid hK
                    replace hM := Lib.hid hM
                    simp [Region.binds] at haf
                    have e24 := (hG 24 (by simp [haf])).trans E24.out
                    replace hG := Lib.hid hG
                    clear haf
                    clear hfb
                    rw [HLIT.out]
                    go_simp
                    exact hK.out _ _ ⟨(upv vs 32 (undef)), (by rw [HLIT.out]; simp only [upv, e24, Nat.reduceBEq, cond_true, cond_false]), hM.out, up_val 32 hG.out E32.out⟩
                  · intro bf ac wv hfb haf hJ K' hK
                    obtain ⟨vs, rfl, hM, hG⟩ := hJ
                    replace hK := Lib.hid hK
                    replace hM := Lib.hid hM
                    simp [Region.binds] at haf
                    have e13 := (hG 13 (by simp [haf])).trans E13.out
                    have e24 := (hG 24 (by simp [haf])).trans E24.out
                    have e32 := (hG 32 (by simp [haf])).trans E32.out
                    replace hG := Lib.hid hG
                    clear haf
                    clear hfb
                    rw [HLIT.out]
                    go_simp
                    exact hK.out _ _ ⟨(upv vs 33 (.bool false)), (by rw [HLIT.out]; simp only [upv, e13, e24, e32, Nat.reduceBEq, cond_true, cond_false]), hM.out, up_val 33 hG.out E33.out⟩
                  · intro bf ac wv hfb haf hJ K' hK
                    obtain ⟨vs, rfl, hM, hG⟩ := hJ
                    replace hK := Lib.hid hK
                    replace hM := Lib.hid hM
                    simp [Region.binds] at haf
                    have e5 := (hG 5 (by simp [haf])).trans E5.out
                    have e13 := (hG 13 (by simp [haf])).trans E13.out
                    have e33 := (hG 33 (by simp [haf])).trans E33.out
                    replace hG := Lib.hid hG
                    clear haf
                    clear hfb
                    rw [HLIT.out]
                    go_simp
                    exact hK.out _ _ ⟨(upv vs 34 (.bool false)), (by rw [HLIT.out]; simp only [upv, e5, e13, e33, Nat.reduceBEq, cond_true, cond_false]), hM.out, up_val 34 hG.out E34.out⟩
                  · intro bf ac wv hfb haf hJ K' hK
                    obtain ⟨vs, rfl, hM, hG⟩ := hJ
                    replace hK := Lib.hid hK
                    replace hM := Lib.hid hM
                    simp [Region.binds] at haf
                    have e5 := (hG 5 (by simp [haf])).trans E5.out
                    have e34 := (hG 34 (by simp [haf])).trans E34.out
                    replace hG := Lib.hid hG
                    clear haf
                    clear hfb
                    rw [HLIT.out]
                    go_simp
                    exact hK.out _ _ ⟨(upv vs 35 (.bool false)), (by rw [HLIT.out]; simp only [upv, e5, e34, Nat.reduceBEq, cond_true, cond_false]), hM.out, up_val 35 hG.out E35.out⟩
                · intro bf ac wv hall hJ
                  obtain ⟨vs, rfl, hM, hG⟩ := hJ
                  have e35 := (hG 35 (hall 35 (by decide))).trans E35.out
                  have HB9 := Lib.hid (keep2 hM HBq.out)
                  clear hM hall hG
                  rw [HLIT.out]
                  go_wp2
                  go_roundw
                  case rel => exact ⟨j + 1, by omega, by go_num, HB9⟩
                  case measure => simp [intOf]; omega
              · have HH3 := Lib.hid hb2
                clear hb2
                obtain ⟨lit, hlit⟩ : ∃ lit : (Nat → Value) → Act, lit = fun vs => { tmps := #[Value.bool false, Value.slice a T.length cap, Value.int IntKind.u32 tm, undef, undef, undef, u6, Value.bool true, Value.int IntKind.i64 2, lv, Value.slice (some { block := b, off := off }) G.length gc, Value.int IntKind.i64 now, Value.bool true, Value.int IntKind.i64 (i : Int), Value.int IntKind.i64 (j : Int), Value.pointer (some { block := n1, off := 0 }), Value.pointer (some { block := n2, off := 0 }), Value.bool true, Value.slice a T.length cap, Value.int IntKind.i64 (T.length : Int), Value.bool (decide ((60 : Int) < (T.length : Int))), undef, Value.bool false, Value.tuple #[lv, Value.slice (some { block := b, off := off }) G.length gc, Value.int IntKind.i64 now, Value.bool true], Value.int IntKind.i64 2, Value.slice a T.length cap, Value.tuple #[lv, Value.slice (some { block := b, off := off }) G.length gc, Value.int IntKind.i64 now, Value.bool true], lv, Value.slice (some { block := b, off := off }) G.length gc, Value.int IntKind.i64 now, Value.bool true, Value.bool true, Value.bool false, Value.int IntKind.i64 (i : Int), Value.slice (some { block := b, off := off }) G.length gc, Value.int IntKind.i64 (G.length : Int), Value.bool true, u37, u38, Value.int IntKind.i64 (j : Int), Value.int IntKind.i64 (i : Int), Value.bool true, u42, u43, Value.slice (some { block := b, off := off }) G.length gc, Value.int IntKind.i64 (j : Int), Value.pointer (some { block := b, off := off + j * 4 }), Value.pointer (some { block := b, off := off + j * 4 }), Value.agg #[Value.int IntKind.i64 ah, Value.int IntKind.i64 af, Value.int IntKind.i64 au], Value.slice (some { block := b, off := off }) G.length gc, Value.int IntKind.i64 (i : Int), Value.pointer (some { block := b, off := off + i * 4 }), Value.pointer (some { block := b, off := off + i * 4 }), Value.agg #[Value.int IntKind.i64 bh, Value.int IntKind.i64 bf1, Value.int IntKind.i64 bu], vs 0, vs 1, vs 2, vs 3, vs 4, vs 5, vs 6, vs 7, vs 8, vs 9, vs 10, vs 11, vs 12, vs 13, vs 14, vs 15, vs 16, vs 17, vs 18, vs 19, vs 20, vs 21, vs 22, vs 23, vs 24, vs 25, vs 26, vs 27, vs 28, vs 29, vs 30, vs 31, vs 32, vs 33, vs 34, vs 35, undef], defers := [] } := ⟨_, rfl⟩
                have HLIT := Lib.hid hlit
                clear hlit
                obtain ⟨val, hval⟩ : ∃ val : List Value, val = [.pointer (some ⟨n1, 0, none⟩), .int .i64 ah, .pointer (some ⟨n2, 0, none⟩), .int .i64 bh, .bool true, .bool true, .agg #[.int .i64 ah, .int .i64 af, .int .i64 au], .slice (some ⟨b, off, none⟩) G.length gc, .int .i64 i, .pointer (some ⟨b, off + i * 4, none⟩), .pointer (some ⟨b, off + i * 4 + 3, none⟩), .int .i64 bt, .bool false, .bool false, .agg #[.int .i64 ah, .int .i64 af, .int .i64 au], .int .u32 tm, .int .i64 tm, .bool true, .bool true, .agg #[.int .i64 bh, .int .i64 bf1, .int .i64 bu], .int .u32 tm, .int .i64 tm, .bool true, .bool true, .bool true, .int .u32 tm, .int .i64 tm, .slice (some ⟨b, off, none⟩) G.length gc, .int .i64 i, .pointer (some ⟨b, off + i * 4, none⟩), .pointer (some ⟨b, off + i * 4 + 3, none⟩), .int .i64 bt, .bool false, .bool false, .bool false, .bool false] := ⟨_, rfl⟩
                have E0 := Lib.hid (show val.getD 0 undef = .pointer (some ⟨n1, 0, none⟩) by rw [hval]; rfl)
                have E1 := Lib.hid (show val.getD 1 undef = .int .i64 ah by rw [hval]; rfl)
                have E2 := Lib.hid (show val.getD 2 undef = .pointer (some ⟨n2, 0, none⟩) by rw [hval]; rfl)
                have E3 := Lib.hid (show val.getD 3 undef = .int .i64 bh by rw [hval]; rfl)
                have E4 := Lib.hid (show val.getD 4 undef = .bool true by rw [hval]; rfl)
                have E5 := Lib.hid (show val.getD 5 undef = .bool true by rw [hval]; rfl)
                have E6 := Lib.hid (show val.getD 6 undef = .agg #[.int .i64 ah, .int .i64 af, .int .i64 au] by rw [hval]; rfl)
                have E7 := Lib.hid (show val.getD 7 undef = .slice (some ⟨b, off, none⟩) G.length gc by rw [hval]; rfl)
                have E8 := Lib.hid (show val.getD 8 undef = .int .i64 i by rw [hval]; rfl)
                have E9 := Lib.hid (show val.getD 9 undef = .pointer (some ⟨b, off + i * 4, none⟩) by rw [hval]; rfl)
                have E10 := Lib.hid (show val.getD 10 undef = .pointer (some ⟨b, off + i * 4 + 3, none⟩) by rw [hval]; rfl)
                have E11 := Lib.hid (show val.getD 11 undef = .int .i64 bt by rw [hval]; rfl)
                have E12 := Lib.hid (show val.getD 12 undef = .bool false by rw [hval]; rfl)
                have E13 := Lib.hid (show val.getD 13 undef = .bool false by rw [hval]; rfl)
                have E14 := Lib.hid (show val.getD 14 undef = .agg #[.int .i64 ah, .int .i64 af, .int .i64 au] by rw [hval]; rfl)
                have E15 := Lib.hid (show val.getD 15 undef = .int .u32 tm by rw [hval]; rfl)
                have E16 := Lib.hid (show val.getD 16 undef = .int .i64 tm by rw [hval]; rfl)
                have E17 := Lib.hid (show val.getD 17 undef = .bool true by rw [hval]; rfl)
                have E18 := Lib.hid (show val.getD 18 undef = .bool true by rw [hval]; rfl)
                have E19 := Lib.hid (show val.getD 19 undef = .agg #[.int .i64 bh, .int .i64 bf1, .int .i64 bu] by rw [hval]; rfl)
                have E20 := Lib.hid (show val.getD 20 undef = .int .u32 tm by rw [hval]; rfl)
                have E21 := Lib.hid (show val.getD 21 undef = .int .i64 tm by rw [hval]; rfl)
                have E22 := Lib.hid (show val.getD 22 undef = .bool true by rw [hval]; rfl)
                have E23 := Lib.hid (show val.getD 23 undef = .bool true by rw [hval]; rfl)
                have E24 := Lib.hid (show val.getD 24 undef = .bool true by rw [hval]; rfl)
                have E25 := Lib.hid (show val.getD 25 undef = .int .u32 tm by rw [hval]; rfl)
                have E26 := Lib.hid (show val.getD 26 undef = .int .i64 tm by rw [hval]; rfl)
                have E27 := Lib.hid (show val.getD 27 undef = .slice (some ⟨b, off, none⟩) G.length gc by rw [hval]; rfl)
                have E28 := Lib.hid (show val.getD 28 undef = .int .i64 i by rw [hval]; rfl)
                have E29 := Lib.hid (show val.getD 29 undef = .pointer (some ⟨b, off + i * 4, none⟩) by rw [hval]; rfl)
                have E30 := Lib.hid (show val.getD 30 undef = .pointer (some ⟨b, off + i * 4 + 3, none⟩) by rw [hval]; rfl)
                have E31 := Lib.hid (show val.getD 31 undef = .int .i64 bt by rw [hval]; rfl)
                have E32 := Lib.hid (show val.getD 32 undef = .bool false by rw [hval]; rfl)
                have E33 := Lib.hid (show val.getD 33 undef = .bool false by rw [hval]; rfl)
                have E34 := Lib.hid (show val.getD 34 undef = .bool false by rw [hval]; rfl)
                have E35 := Lib.hid (show val.getD 35 undef = .bool false by rw [hval]; rfl)
                clear hval
                refine region_inv (fun bf ac wv => ∃ vs : Nat → Value, ac = lit vs ∧ Below wq.heap.size wq wv ∧ ∀ i, bf i = true → vs i = val.getD i undef) (by kernel_rfl) (by decide +kernel) ?_ ?_ ?_
                · exact ⟨fun i => ([u54, u55, u56, u57, u58, u59, u60, u61, u62, u63, u64, u65, u66, u67, u68, u69, u70, u71, u72, u73, u74, u75, u76, u77, u78, u79, u80, u81, u82, u83, u84, u85, u86, u87, u88, u89] : List Value).getD i undef, (by rw [HLIT.out]; rfl), below_drew _ _, fun i h => by cases h⟩
                · refine ⟨?_, ?_, ?_, ?_, ?_, ?_, ?_, ?_, ?_, ?_, ?_, ?_, ?_, ?_, ?_, ?_, ?_, ?_, ?_, ?_, ?_, ?_, ?_, ?_, ?_, ?_, ?_, ?_, ?_, ?_, ?_, ?_, ?_, ?_, ?_, ?_, trivial⟩
                  · intro bf ac wv hfb haf hJ K' hK
                    obtain ⟨vs, rfl, hM, hG⟩ := hJ
                    replace hK := Lib.hid hK
                    replace hM := Lib.hid hM
                    replace hG := Lib.hid hG
                    clear haf
                    clear hfb
                    rw [HLIT.out]
                    go_simp
                    exact hK.out _ _ ⟨(upv vs 0 (.pointer (some ⟨n1, 0, none⟩))), (by rw [HLIT.out]; rfl), hM.out, up_val 0 hG.out E0.out⟩
                  · intro bf ac wv hfb haf hJ K' hK
                    obtain ⟨vs, rfl, hM, hG⟩ := hJ
                    replace hK := Lib.hid hK
                    replace hM := Lib.hid hM
                    simp [Region.binds] at haf
                    have e0 := (hG 0 (by simp [haf])).trans E0.out
                    replace hG := Lib.hid hG
                    clear haf
                    clear hfb
                    rw [HLIT.out]
                    have KA1 := KA.out.step hM.out
                    have xa0 := KA1.c 0 rfl
                    have xa1 := KA1.c 1 rfl
                    have xa2 := KA1.c 2 rfl
                    have xaz := KA1.2.2
                    clear KA1
                    go_simp
                    exact hK.out _ _ ⟨(upv vs 1 (.int .i64 ah)), (by rw [HLIT.out]; simp only [upv, e0, Nat.reduceBEq, cond_true, cond_false]), hM.out, up_val 1 hG.out E1.out⟩
                  · intro bf ac wv hfb haf hJ K' hK
                    obtain ⟨vs, rfl, hM, hG⟩ := hJ
                    replace hK := Lib.hid hK
                    replace hM := Lib.hid hM
                    replace hG := Lib.hid hG
                    clear haf
                    clear hfb
                    rw [HLIT.out]
                    go_simp
                    exact hK.out _ _ ⟨(upv vs 2 (.pointer (some ⟨n2, 0, none⟩))), (by rw [HLIT.out]; rfl), hM.out, up_val 2 hG.out E2.out⟩
                  · intro bf ac wv hfb haf hJ K' hK
                    obtain ⟨vs, rfl, hM, hG⟩ := hJ
                    replace hK := Lib.hid hK
                    replace hM := Lib.hid hM
                    simp [Region.binds] at haf
                    have e2 := (hG 2 (by simp [haf])).trans E2.out
                    replace hG := Lib.hid hG
                    clear haf
                    clear hfb
                    rw [HLIT.out]
                    have KB1 := KB.out.step hM.out
                    have xb0 := KB1.c 0 rfl
                    have xb1 := KB1.c 1 rfl
                    have xb2 := KB1.c 2 rfl
                    have xbz := KB1.2.2
                    clear KB1
                    go_simp
                    exact hK.out _ _ ⟨(upv vs 3 (.int .i64 bh)), (by rw [HLIT.out]; simp only [upv, e2, Nat.reduceBEq, cond_true, cond_false]), hM.out, up_val 3 hG.out E3.out⟩
                  · intro bf ac wv hfb haf hJ K' hK
                    obtain ⟨vs, rfl, hM, hG⟩ := hJ
                    replace hK := Lib.hid hK
                    replace hM := Lib.hid hM
                    simp [Region.binds] at haf
                    have e1 := (hG 1 (by simp [haf])).trans E1.out
                    have e3 := (hG 3 (by simp [haf])).trans E3.out
                    replace hG := Lib.hid hG
                    clear haf
                    clear hfb
                    rw [HLIT.out]
                    go_simp
                    exact hK.out _ _ ⟨(upv vs 4 (.bool true)), (by rw [HLIT.out]; simp only [upv, e1, e3, Nat.reduceBEq, cond_true, cond_false]), hM.out, up_val 4 hG.out E4.out⟩
                  · intro bf ac wv hfb haf hJ K' hK
                    obtain ⟨vs, rfl, hM, hG⟩ := hJ
                    replace hK := Lib.hid hK
                    replace hM := Lib.hid hM
                    simp [Region.binds] at haf
                    have e4 := (hG 4 (by simp [haf])).trans E4.out
                    replace hG := Lib.hid hG
                    clear haf
                    clear hfb
                    rw [HLIT.out]
                    go_simp
                    exact hK.out _ _ ⟨(upv vs 5 (.bool true)), (by rw [HLIT.out]; simp only [upv, e4, Nat.reduceBEq, cond_true, cond_false]), hM.out, up_val 5 hG.out E5.out⟩
                  · intro bf ac wv hfb haf hJ K' hK
                    obtain ⟨vs, rfl, hM, hG⟩ := hJ
                    replace hK := Lib.hid hK
                    replace hM := Lib.hid hM
                    simp [Region.binds] at haf
                    have e5 := (hG 5 (by simp [haf])).trans E5.out
                    replace hG := Lib.hid hG
                    clear haf
                    clear hfb
                    rw [HLIT.out]
                    have KA1 := KA.out.step hM.out
                    have xa0 := KA1.c 0 rfl
                    have xa1 := KA1.c 1 rfl
                    have xa2 := KA1.c 2 rfl
                    have xaz := KA1.2.2
                    clear KA1
                    go_simp
                    exact hK.out _ _ ⟨(upv vs 6 (.agg #[.int .i64 ah, .int .i64 af, .int .i64 au])), (by rw [HLIT.out]; simp only [upv, e5, Nat.reduceBEq, cond_true, cond_false]), hM.out, up_val 6 hG.out E6.out⟩
                  · intro bf ac wv hfb haf hJ K' hK
                    obtain ⟨vs, rfl, hM, hG⟩ := hJ
                    replace hK := Lib.hid hK
                    replace hM := Lib.hid hM
                    simp [Region.binds] at haf
                    have e5 := (hG 5 (by simp [haf])).trans E5.out
                    replace hG := Lib.hid hG
                    clear haf
                    clear hfb
                    rw [HLIT.out]
                    go_simp
                    exact hK.out _ _ ⟨(upv vs 7 (.slice (some ⟨b, off, none⟩) G.length gc)), (by rw [HLIT.out]; simp only [upv, e5, Nat.reduceBEq, cond_true, cond_false]), hM.out, up_val 7 hG.out E7.out⟩
                  · intro bf ac wv hfb haf hJ K' hK
                    obtain ⟨vs, rfl, hM, hG⟩ := hJ
                    replace hK := Lib.hid hK
                    replace hM := Lib.hid hM
                    simp [Region.binds] at haf
                    have e5 := (hG 5 (by simp [haf])).trans E5.out
                    replace hG := Lib.hid hG
                    clear haf
                    clear hfb
                    rw [HLIT.out]
                    go_simp
                    exact hK.out _ _ ⟨(upv vs 8 (.int .i64 i)), (by rw [HLIT.out]; simp only [upv, e5, Nat.reduceBEq, cond_true, cond_false]), hM.out, up_val 8 hG.out E8.out⟩
                  · intro bf ac wv hfb haf hJ K' hK
                    obtain ⟨vs, rfl, hM, hG⟩ := hJ
                    replace hK := Lib.hid hK
                    replace hM := Lib.hid hM
                    simp [Region.binds] at haf
                    have e5 := (hG 5 (by simp [haf])).trans E5.out
                    have e7 := (hG 7 (by simp [haf])).trans E7.out
                    have e8 := (hG 8 (by simp [haf])).trans E8.out
                    replace hG := Lib.hid hG
                    clear haf
                    clear hfb
                    rw [HLIT.out]
                    go_simp
                    exact hK.out _ _ ⟨(upv vs 9 (.pointer (some ⟨b, off + i * 4, none⟩))), (by rw [HLIT.out]; simp only [upv, e5, e7, e8, Nat.reduceBEq, cond_true, cond_false]), hM.out, up_val 9 hG.out E9.out⟩
                  · intro bf ac wv hfb haf hJ K' hK
                    obtain ⟨vs, rfl, hM, hG⟩ := hJ
                    replace hK := Lib.hid hK
                    replace hM := Lib.hid hM
                    simp [Region.binds] at haf
                    have e5 := (hG 5 (by simp [haf])).trans E5.out
                    have e9 := (hG 9 (by simp [haf])).trans E9.out
                    replace hG := Lib.hid hG
                    clear haf
                    clear hfb
                    rw [HLIT.out]
                    go_simp
                    exact hK.out _ _ ⟨(upv vs 10 (.pointer (some ⟨b, off + i * 4 + 3, none⟩))), (by rw [HLIT.out]; simp only [upv, e5, e9, Nat.reduceBEq, cond_true, cond_false]), hM.out, up_val 10 hG.out E10.out⟩
                  · intro bf ac wv hfb haf hJ K' hK
                    obtain ⟨vs, rfl, hM, hG⟩ := hJ
                    replace hK := Lib.hid hK
                    replace hM := Lib.hid hM
                    simp [Region.binds] at haf
                    have e5 := (hG 5 (by simp [haf])).trans E5.out
                    have e10 := (hG 10 (by simp [haf])).trans E10.out
                    replace hG := Lib.hid hG
                    clear haf
                    clear hfb
                    rw [HLIT.out]
                    have xg := keep1 hM.out qg3
                    have xgz := World.block_lt_of_cell? _ _ xg
                    have xgz : b < wv.heap.size := xgz
                    go_simp
                    exact hK.out _ _ ⟨(upv vs 11 (.int .i64 bt)), (by rw [HLIT.out]; simp only [upv, e5, e10, Nat.reduceBEq, cond_true, cond_false]), hM.out, up_val 11 hG.out E11.out⟩
                  · intro bf ac wv hfb haf hJ K' hK
                    obtain ⟨vs, rfl, hM, hG⟩ := hJ
                    replace hK := Lib.hid hK
                    replace hM := Lib.hid hM
                    simp [Region.binds] at haf
                    have e5 := (hG 5 (by simp [haf])).trans E5.out
                    have e6 := (hG 6 (by simp [haf])).trans E6.out
                    have e11 := (hG 11 (by simp [haf])).trans E11.out
                    replace hG := Lib.hid hG
                    clear haf
                    clear hfb
                    rw [HLIT.out]
                    go_simp
                    go_at_call 17
                    refine (holds_l _ _ _ _ _).mono ?_
                    rintro e w4 ⟨rfl, b4⟩
                    rw [HH1.out]
                    exact hK.out _ _ ⟨(upv vs 12 (.bool false)), (by rw [HLIT.out]; simp only [upv, e5, e6, e11, Nat.reduceBEq, cond_true, cond_false]), (keep2 b4 hM.out), up_val 12 hG.out E12.out⟩
                  · intro bf ac wv hfb haf hJ K' hK
                    obtain ⟨vs, rfl, hM, hG⟩ := hJ
                    replace hK := Lib.hid hK
                    replace hM := Lib.hid hM
                    simp [Region.binds] at haf
                    have e5 := (hG 5 (by simp [haf])).trans E5.out
                    have e12 := (hG 12 (by simp [haf])).trans E12.out
                    replace hG := Lib.hid hG
                    clear haf
                    clear hfb
                    rw [HLIT.out]
                    go_simp
                    exact hK.out _ _ ⟨(upv vs 13 (.bool false)), (by rw [HLIT.out]; simp only [upv, e5, e12, Nat.reduceBEq, cond_true, cond_false]), hM.out, up_val 13 hG.out E13.out⟩
                  · intro bf ac wv hfb haf hJ K' hK
                    obtain ⟨vs, rfl, hM, hG⟩ := hJ
                    replace hK := Lib.hid hK
                    replace hM := Lib.hid hM
                    simp [Region.binds] at haf
                    have e13 := (hG 13 (by simp [haf])).trans E13.out
                    replace hG := Lib.hid hG
                    clear haf
                    clear hfb
                    rw [HLIT.out]
                    have KA1 := KA.out.step hM.out
                    have xa0 := KA1.c 0 rfl
                    have xa1 := KA1.c 1 rfl
                    have xa2 := KA1.c 2 rfl
                    have xaz := KA1.2.2
                    clear KA1
                    go_simp
                    exact hK.out _ _ ⟨(upv vs 14 (.agg #[.int .i64 ah, .int .i64 af, .int .i64 au])), (by rw [HLIT.out]; simp only [upv, e13, Nat.reduceBEq, cond_true, cond_false]), hM.out, up_val 14 hG.out E14.out⟩
                  · intro bf ac wv hfb haf hJ K' hK
                    obtain ⟨vs, rfl, hM, hG⟩ := hJ
                    replace hK := Lib.hid hK
                    replace hM := Lib.hid hM
                    simp [Region.binds] at haf
                    have e13 := (hG 13 (by simp [haf])).trans E13.out
                    replace hG := Lib.hid hG
                    clear haf
                    clear hfb
                    rw [HLIT.out]
                    go_simp
                    exact hK.out _ _ ⟨(upv vs 15 (.int .u32 tm)), (by rw [HLIT.out]; simp only [upv, e13, Nat.reduceBEq, cond_true, cond_false]), hM.out, up_val 15 hG.out E15.out⟩
                  · intro bf ac wv hfb haf hJ K' hK
                    obtain ⟨vs, rfl, hM, hG⟩ := hJ
                    replace hK := Lib.hid hK
                    replace hM := Lib.hid hM
                    simp [Region.binds] at haf
                    have e13 := (hG 13 (by simp [haf])).trans E13.out
                    have e15 := (hG 15 (by simp [haf])).trans E15.out
                    replace hG := Lib.hid hG
                    clear haf
                    clear hfb
                    rw [HLIT.out]
                    go_simp
                    exact hK.out _ _ ⟨(upv vs 16 (.int .i64 tm)), (by rw [HLIT.out]; simp only [upv, e13, e15, Nat.reduceBEq, cond_true, cond_false]), hM.out, up_val 16 hG.out E16.out⟩
                  · intro bf ac wv hfb haf hJ K' hK
                    obtain ⟨vs, rfl, hM, hG⟩ := hJ
                    replace hK := Lib.hid hK
                    replace hM := Lib.hid hM
                    simp [Region.binds] at haf
                    have e13 := (hG 13 (by simp [haf])).trans E13.out
                    have e14 := (hG 14 (by simp [haf])).trans E14.out
                    have e16 := (hG 16 (by simp [haf])).trans E16.out
                    replace hG := Lib.hid hG
                    clear haf
                    clear hfb
                    rw [HLIT.out]
                    go_simp
                    go_at_call 17
                    refine (holds_l _ _ _ _ _).mono ?_
                    rintro e w4 ⟨rfl, b4⟩
                    rw [HH2.out]
                    exact hK.out _ _ ⟨(upv vs 17 (.bool true)), (by rw [HLIT.out]; simp only [upv, e13, e14, e16, Nat.reduceBEq, cond_true, cond_false]), (keep2 b4 hM.out), up_val 17 hG.out E17.out⟩
                  · intro bf ac wv hfb haf hJ K' hK
                    obtain ⟨vs, rfl, hM, hG⟩ := hJ
                    replace hK := Lib.hid hK
                    replace hM := Lib.hid hM
                    simp [Region.binds] at haf
                    have e13 := (hG 13 (by simp [haf])).trans E13.out
                    have e17 := (hG 17 (by simp [haf])).trans E17.out
                    replace hG := Lib.hid hG
                    clear haf
                    clear hfb
                    rw [HLIT.out]
                    go_simp
                    exact hK.out _ _ ⟨(upv vs 18 (.bool true)), (by rw [HLIT.out]; simp only [upv, e13, e17, Nat.reduceBEq, cond_true, cond_false]), hM.out, up_val 18 hG.out E18.out⟩
                  · intro bf ac wv hfb haf hJ K' hK
                    obtain ⟨vs, rfl, hM, hG⟩ := hJ
                    replace hK := Lib.hid hK
                    replace hM := Lib.hid hM
                    simp [Region.binds] at haf
                    have e18 := (hG 18 (by simp [haf])).trans E18.out
                    replace hG := Lib.hid hG
                    clear haf
                    clear hfb
                    rw [HLIT.out]
                    have KB1 := KB.out.step hM.out
                    have xb0 := KB1.c 0 rfl
                    have xb1 := KB1.c 1 rfl
                    have xb2 := KB1.c 2 rfl
                    have xbz := KB1.2.2
                    clear KB1
                    go_simp
                    exact hK.out _ _ ⟨(upv vs 19 (.agg #[.int .i64 bh, .int .i64 bf1, .int .i64 bu])), (by rw [HLIT.out]; simp only [upv, e18, Nat.reduceBEq, cond_true, cond_false]), hM.out, up_val 19 hG.out E19.out⟩
                  · intro bf ac wv hfb haf hJ K' hK
                    obtain ⟨vs, rfl, hM, hG⟩ := hJ
                    replace hK := Lib.hid hK
                    replace hM := Lib.hid hM
                    simp [Region.binds] at haf
                    have e18 := (hG 18 (by simp [haf])).trans E18.out
                    replace hG := Lib.hid hG
                    clear haf
                    clear hfb
                    rw [HLIT.out]
                    go_simp
                    exact hK.out _ _ ⟨(upv vs 20 (.int .u32 tm)), (by rw [HLIT.out]; simp only [upv, e18, Nat.reduceBEq, cond_true, cond_false]), hM.out, up_val 20 hG.out E20.out⟩
                  · intro bf ac wv hfb haf hJ K' hK
                    obtain ⟨vs, rfl, hM, hG⟩ := hJ
                    replace hK := Lib.hid hK
                    replace hM := Lib.hid hM
                    simp [Region.binds] at haf
                    have e18 := (hG 18 (by simp [haf])).trans E18.out
                    have e20 := (hG 20 (by simp [haf])).trans E20.out
                    replace hG := Lib.hid hG
                    clear haf
                    clear hfb
                    rw [HLIT.out]
                    go_simp
                    exact hK.out _ _ ⟨(upv vs 21 (.int .i64 tm)), (by rw [HLIT.out]; simp only [upv, e18, e20, Nat.reduceBEq, cond_true, cond_false]), hM.out, up_val 21 hG.out E21.out⟩
                  · intro bf ac wv hfb haf hJ K' hK
                    obtain ⟨vs, rfl, hM, hG⟩ := hJ
                    replace hK := Lib.hid hK
                    replace hM := Lib.hid hM
                    simp [Region.binds] at haf
                    have e18 := (hG 18 (by simp [haf])).trans E18.out
                    have e19 := (hG 19 (by simp [haf])).trans E19.out
                    have e21 := (hG 21 (by simp [haf])).trans E21.out
                    replace hG := Lib.hid hG
                    clear haf
                    clear hfb
                    rw [HLIT.out]
                    go_simp
                    go_at_call 17
                    refine (holds_l _ _ _ _ _).mono ?_
                    rintro e w4 ⟨rfl, b4⟩
                    rw [HH3.out]
                    exact hK.out _ _ ⟨(upv vs 22 (.bool true)), (by rw [HLIT.out]; simp only [upv, e18, e19, e21, Nat.reduceBEq, cond_true, cond_false]), (keep2 b4 hM.out), up_val 22 hG.out E22.out⟩
                  · intro bf ac wv hfb haf hJ K' hK
                    obtain ⟨vs, rfl, hM, hG⟩ := hJ
                    replace hK := Lib.hid hK
                    replace hM := Lib.hid hM
                    simp [Region.binds] at haf
                    have e13 := (hG 13 (by simp [haf])).trans E13.out
                    have e18 := (hG 18 (by simp [haf])).trans E18.out
                    have e22 := (hG 22 (by simp [haf])).trans E22.out
                    replace hG := Lib.hid hG
                    clear haf
                    clear hfb
                    rw [HLIT.out]
                    go_simp
                    exact hK.out _ _ ⟨(upv vs 23 (.bool true)), (by rw [HLIT.out]; simp only [upv, e13, e18, e22, Nat.reduceBEq, cond_true, cond_false]), hM.out, up_val 23 hG.out E23.out⟩
                  · intro bf ac wv hfb haf hJ K' hK
                    obtain ⟨vs, rfl, hM, hG⟩ := hJ
                    replace hK := Lib.hid hK
                    replace hM := Lib.hid hM
                    simp [Region.binds] at haf
                    have e13 := (hG 13 (by simp [haf])).trans E13.out
                    have e23 := (hG 23 (by simp [haf])).trans E23.out
                    replace hG := Lib.hid hG
                    clear haf
                    clear hfb
                    rw [HLIT.out]
                    go_simp
                    exact hK.out _ _ ⟨(upv vs 24 (.bool true)), (by rw [HLIT.out]; simp only [upv, e13, e23, Nat.reduceBEq, cond_true, cond_false]), hM.out, up_val 24 hG.out E24.out⟩
                  · intro bf ac wv hfb haf hJ K' hK
                    obtain ⟨vs, rfl, hM, hG⟩ := hJ
                    replace hK := Lib.hid hK
                    replace hM := Lib.hid hM
                    simp [Region.binds] at haf
                    have e24 := (hG 24 (by simp [haf])).trans E24.out
                    replace hG := Lib.hid hG
                    clear haf
                    clear hfb
                    rw [HLIT.out]
                    go_simp
                    exact hK.out _ _ ⟨(upv vs 25 (.int .u32 tm)), (by rw [HLIT.out]; simp only [upv, e24, Nat.reduceBEq, cond_true, cond_false]), hM.out, up_val 25 hG.out E25.out⟩
                  · intro bf ac wv hfb haf hJ K' hK
                    obtain ⟨vs, rfl, hM, hG⟩ := hJ
                    replace hK := Lib.hid hK
                    replace hM := Lib.hid hM
                    simp [Region.binds] at haf
                    have e24 := (hG 24 (by simp [haf])).trans E24.out
                    have e25 := (hG 25 (by simp [haf])).trans E25.out
                    replace hG := Lib.hid hG
                    clear haf
                    clear hfb
                    rw [HLIT.out]
                    go_simp
                    exact hK.out _ _ ⟨(upv vs 26 (.int .i64 tm)), (by rw [HLIT.out]; simp only [upv, e24, e25, Nat.reduceBEq, cond_true, cond_false]), hM.out, up_val 26 hG.out E26.out⟩
                  · intro bf ac wv hfb haf hJ K' hK
                    obtain ⟨vs, rfl, hM, hG⟩ := hJ
                    replace hK := Lib.hid hK
                    replace hM := Lib.hid hM
                    simp [Region.binds] at haf
                    have e24 := (hG 24 (by simp [haf])).trans E24.out
                    replace hG := Lib.hid hG
                    clear haf
                    clear hfb
                    rw [HLIT.out]
                    go_simp
                    exact hK.out _ _ ⟨(upv vs 27 (.slice (some ⟨b, off, none⟩) G.length gc)), (by rw [HLIT.out]; simp only [upv, e24, Nat.reduceBEq, cond_true, cond_false]), hM.out, up_val 27 hG.out E27.out⟩
                  · intro bf ac wv hfb haf hJ K' hK
                    obtain ⟨vs, rfl, hM, hG⟩ := hJ
                    replace hK := Lib.hid hK
                    replace hM := Lib.hid hM
                    simp [Region.binds] at haf
                    have e24 := (hG 24 (by simp [haf])).trans E24.out
                    replace hG := Lib.hid hG
                    clear haf
                    clear hfb
                    rw [HLIT.out]
                    go_simp
                    exact hK.out _ _ ⟨(upv vs 28 (.int .i64 i)), (by rw [HLIT.out]; simp only [upv, e24, Nat.reduceBEq, cond_true, cond_false]), hM.out, up_val 28 hG.out E28.out⟩
                  · intro bf ac wv hfb haf hJ K' hK
                    obtain ⟨vs, rfl, hM, hG⟩ := hJ
                    replace hK := Lib.hid hK
                    replace hM := Lib.hid hM
                    simp [Region.binds] at haf
                    have e24 := (hG 24 (by simp [haf])).trans E24.out
                    have e27 := (hG 27 (by simp [haf])).trans E27.out
                    have e28 := (hG 28 (by simp [haf])).trans E28.out
                    replace hG := Lib.hid hG
                    clear haf
                    clear hfb
                    rw [HLIT.out]
                    go_simp
                    exact hK.out _ _ ⟨(upv vs 29 (.pointer (some ⟨b, off + i * 4, none⟩))), (by rw [HLIT.out]; simp only [upv, e24, e27, e28, Nat.reduceBEq, cond_true, cond_false]), hM.out, up_val 29 hG.out E29.out⟩
                  · intro bf ac wv hfb haf hJ K' hK
                    obtain ⟨vs, rfl, hM, hG⟩ := hJ
                    replace hK := Lib.hid hK
                    replace hM := Lib.hid hM
                    simp [Region.binds] at haf
                    have e24 := (hG 24 (by simp [haf])).trans E24.out
                    have e29 := (hG 29 (by simp [haf])).trans E29.out
                    replace hG := Lib.hid hG
                    clear haf
                    clear hfb
                    rw [HLIT.out]
                    go_simp
                    exact hK.out _ _ ⟨(upv vs 30 (.pointer (some ⟨b, off + i * 4 + 3, none⟩))), (by rw [HLIT.out]; simp only [upv, e24, e29, Nat.reduceBEq, cond_true, cond_false]), hM.out, up_val 30 hG.out E30.out⟩
                  · intro bf ac wv hfb haf hJ K' hK
                    obtain ⟨vs, rfl, hM, hG⟩ := hJ
                    replace hK := Lib.hid hK
                    replace hM := Lib.hid hM
                    simp [Region.binds] at haf
                    have e24 := (hG 24 (by simp [haf])).trans E24.out
                    have e30 := (hG 30 (by simp [haf])).trans E30.out
                    replace hG := Lib.hid hG
                    clear haf
                    clear hfb
                    rw [HLIT.out]
                    have xg := keep1 hM.out qg3
                    have xgz := World.block_lt_of_cell? _ _ xg
                    have xgz : b < wv.heap.size := xgz
                    go_simp
                    exact hK.out _ _ ⟨(upv vs 31 (.int .i64 bt)), (by rw [HLIT.out]; simp only [upv, e24, e30, Nat.reduceBEq, cond_true, cond_false]), hM.out, up_val 31 hG.out E31.out⟩
                  · intro bf ac wv hfb haf hJ K' hK
                    obtain ⟨vs, rfl, hM, hG⟩ := hJ
                    replace hK := Lib.hid hK
                    replace hM := Lib.hid hM
                    simp [Region.binds] at haf
                    have e24 := (hG 24 (by simp [haf])).trans E24.out
                    have e26 := (hG 26 (by simp [haf])).trans E26.out
                    have e31 := (hG 31 (by simp [haf])).trans E31.out
                    replace hG := Lib.hid hG
                    clear haf
                    clear hfb
                    rw [HLIT.out]
                    go_simp
                    exact hK.out _ _ ⟨(upv vs 32 (.bool false)), (by rw [HLIT.out]; simp only [upv, e24, e26, e31, Nat.reduceBEq, cond_true, cond_false]), hM.out, up_val 32 hG.out E32.out⟩
                  · intro bf ac wv hfb haf hJ K' hK
                    obtain ⟨vs, rfl, hM, hG⟩ := hJ
                    replace hK := Lib.hid hK
                    replace hM := Lib.hid hM
                    simp [Region.binds] at haf
                    have e13 := (hG 13 (by simp [haf])).trans E13.out
                    have e24 := (hG 24 (by simp [haf])).trans E24.out
                    have e32 := (hG 32 (by simp [haf])).trans E32.out
                    replace hG := Lib.hid hG
                    clear haf
                    clear hfb
                    rw [HLIT.out]
                    go_simp
                    exact hK.out _ _ ⟨(upv vs 33 (.bool false)), (by rw [HLIT.out]; simp only [upv, e13, e24, e32, Nat.reduceBEq, cond_true, cond_false]), hM.out, up_val 33 hG.out E33.out⟩
                  · intro bf ac wv hfb haf hJ K' hK
                    obtain ⟨vs, rfl, hM, hG⟩ := hJ
                    replace hK := Lib.hid hK
                    replace hM := Lib.hid hM
                    simp [Region.binds] at haf
                    have e5 := (hG 5 (by simp [haf])).trans E5.out
                    have e13 := (hG 13 (by simp [haf])).trans E13.out
                    have e33 := (hG 33 (by simp [haf])).trans E33.out
                    replace hG := Lib.hid hG
                    clear haf
                    clear hfb
                    rw [HLIT.out]
                    go_simp
                    exact hK.out _ _ ⟨(upv vs 34 (.bool false)), (by rw [HLIT.out]; simp only [upv, e5, e13, e33, Nat.reduceBEq, cond_true, cond_false]), hM.out, up_val 34 hG.out E34.out⟩
                  · intro bf ac wv hfb haf hJ K' hK
                    obtain ⟨vs, rfl, hM, hG⟩ := hJ
                    replace hK := Lib.hid hK
                    replace hM := Lib.hid hM
                    simp [Region.binds] at haf
                    have e5 := (hG 5 (by simp [haf])).trans E5.out
                    have e34 := (hG 34 (by simp [haf])).trans E34.out
                    replace hG := Lib.hid hG
                    clear haf
                    clear hfb
                    rw [HLIT.out]
                    go_simp
                    exact hK.out _ _ ⟨(upv vs 35 (.bool false)), (by rw [HLIT.out]; simp only [upv, e5, e34, Nat.reduceBEq, cond_true, cond_false]), hM.out, up_val 35 hG.out E35.out⟩
                · intro bf ac wv hall hJ
                  obtain ⟨vs, rfl, hM, hG⟩ := hJ
                  have e35 := (hG 35 (hall 35 (by decide))).trans E35.out
                  have HB9 := Lib.hid (keep2 hM HBq.out)
                  clear hM hall hG
                  rw [HLIT.out]
                  go_wp2
                  go_roundw
                  case rel => exact ⟨j + 1, by omega, by go_num, HB9⟩
                  case measure => simp [intOf]; omega
        · obtain rfl : j = i := by omega
          go_wp2
          go_roundw
          case rel => exact ⟨j + 1, by omega, by go_num, HB⟩
          case measure => simp [intOf]; omega
    · go_wp2
      go_ret
      exact ⟨rfl, keep2 HB.out HB2.out⟩
end Go.Proofs.Ytelohejnbfefoaa
