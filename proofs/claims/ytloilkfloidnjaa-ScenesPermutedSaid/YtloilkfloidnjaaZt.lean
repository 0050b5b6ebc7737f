/- The walk of ScenesPermuted. -/
import Derived.Test.YtloilkfloidnjaaZp
import Derived.Test.YtloilkfloidnjaaZr
import Derived.BigQuiet
namespace Go.Proofs.Ytloilkfloidnjaa
open Go.RowKit Go.WideMaps

/-- What 'Overlay' gives of known names. -/
theorem ov_known {L : List Scn} {N : List ByteArray} {w' : World} {e : Ending} (hb : kn L N = true) (h : kn L N = false ∧ e = .returned (.tuple #[.slice none 0 0, .int .i64 8]) ∨ kn L N = true ∧ ∃ v, e = .returned (.tuple #[v, .int .i64 0]) ∧ SettsAt w' v (ovl L N)) :
    ∃ a c, e = .returned (.tuple #[.slice a (ovl L N).length c, .int .i64 0]) ∧ SettsAt w' (.slice a (ovl L N).length c) (ovl L N) := by
  rcases h with ⟨h1, -⟩ | ⟨-, v, rfl, h2⟩
  · rw [hb] at h1; cases h1
  · have h3 := h2
    obtain ⟨a, c, rfl, -⟩ := h3
    exact ⟨a, c, rfl, h2⟩
theorem drop_rev {N : List ByteArray} {k : Nat} (h : k < N.length) : (N.drop (k + 1)).reverse ++ [nameAt N k] = (N.drop k).reverse := by
  rw [List.drop_eq_getElem_cons h, List.reverse_cons, show nameAt N k = N[k] by simp [nameAt, List.getD_eq_getElem?_getD, h]]
theorem all_ne {L : List Scn} {N : List ByteArray} (h : ∀ i, 0 ≤ i → i < N.length → ∀ j, j < i → ixOf L (nameAt N i) ≠ ixOf L (nameAt N j) → lyr L (ixOf L (nameAt N i)) ≠ lyr L (ixOf L (nameAt N j))) : ∀ i ∈ ixs L N, ∀ k ∈ ixs L N, i ≠ k → lyr L i ≠ lyr L k := by
  intro i hi k hk hne
  obtain ⟨p, hp, rfl⟩ := ixs_ex hi
  obtain ⟨q, hq, rfl⟩ := ixs_ex hk
  by_cases e : q < p
  · exact h p (by omega) hp q e hne
  · by_cases e2 : p = q
    · subst e2; exact absurd rfl hne
    · exact (h q (by omega) hq p (by omega) (Ne.symm hne)).symm
theorem names_cell {w : World} {a : Option Addr} {n c : Nat} {N : List ByteArray} (h : NamesAt w (.slice a n c) N) {k : Nat} (hk : k < N.length) : ∃ b off, a = some ⟨b, off, none⟩ ∧ w.cell? ⟨b, off + k, none⟩ = some (.string (nameAt N k)) ∧ b < w.heap.size := by
  obtain ⟨a2, c2, hv, -, hc⟩ := h
  cases hv
  obtain ⟨b, off, rfl, hx⟩ := hc (by intro h; rw [h] at hk; simp at hk)
  have h1 := hx k _ (name_get hk)
  exact ⟨b, off, rfl, h1, World.block_lt_of_cell? _ _ h1⟩
theorem scns_cell {w : World} {a : Option Addr} {n c : Nat} {L : List Scn} (h : ScnsAt w (.slice a n c) L) {k : Nat} (hk : k < L.length) : ∃ b off, a = some ⟨b, off, none⟩ ∧ w.cell? ⟨b, off + k * 3 + 1, none⟩ = some (.int .i64 (lyr L k)) ∧ b < w.heap.size := by
  obtain ⟨a2, c2, hv, hc⟩ := h.open
  cases hv
  obtain ⟨b, off, rfl, hx⟩ := hc (by intro h; rw [h] at hk; simp at hk)
  have h1 := (hx k hk).2.1
  exact ⟨b, off, rfl, h1, World.block_lt_of_cell? _ _ h1⟩
/-- A row lies as it lay, as long as nothing is stored. -/
theorem row_step9 {w w1 : World} {base e s : Nat} {v : Value} {n : Nat} {xs : List Value} (h : w.ownsRow base e s v n xs) (hb : Below w.heap.size w w1) : w1.ownsRow base e s v n xs := by
  refine ⟨h.1, ?_⟩
  rcases h.2 with h0 | ⟨g, cap, cur, h1, h2, h3, h4⟩
  · exact .inl h0
  · exact .inr ⟨g, cap, cur, h1, h2, (hb.block g (Array.getElem?_eq_some_iff.1 h3).1).trans h3, h4⟩
theorem row_own {w : World} {base e s : Nat} {v : Value} {n : Nat} {xs : List Value} (h : w.ownsRow base e s v n xs) (k : Nat) (hk : v.ownBlock = some k) : base ≤ k := by
  rcases h.2 with ⟨rfl, h0⟩ | ⟨g, cap, cur, rfl, h2, -⟩
  · cases hk
  · cases hk; exact h2
/-- A guarded append whose equation is known, in a plain region. -/
theorem wpList_app_g {ops : Array Oper} {rest : List Oper} {o : Oper} {a : Act} {w w' : World} {Q : Exit → Act → World → Prop} (s x : Operand) (t : TypeId)
    (ho : o.op = .call { callee := .builtin .append, args := #[s, x], argTypes := #[t, t] }) (hw : Region.wanted o (yielded ops a.tmps) = true) (v sl v' : Value) (hs : a.eval s = v) (hx : a.eval x = sl)
    (hr : (Builtin.append_ #[t, t] o.type #[v, sl]).run Try.prog w = .ok v' w') (h : wpList Try.prog ops Q rest (a.put o.dst v') w') : wpList Try.prog ops Q (o :: rest) a w := by
  refine wpList_step fun K hK => ?_
  rw [if_pos hw]
  unfold Oper.wp execOp
  simp only [ho, resolve, invoke, builtin, Sem.run_bind, Sem.run_pure, Result.andThen_ok, List.map_toArray, List.map_cons, List.map_nil, hs, hx, hr]
  exact hK _ _ h
theorem ncells2 {w : World} {a : Option Addr} {n c : Nat} {N : List ByteArray} (h : NamesAt w (.slice a n c) N) : (N.map Value.string).length = N.length * 1 ∧ (∀ ad, a = some ad → ∀ j u, (N.map Value.string)[j]? = some u → w.cell? (ad.add j) = some u) ∧ (a = none → N.length = 0) := by
  obtain ⟨a2, c2, hv, h3, h4⟩ := names_cells h
  cases hv
  exact ⟨by simp, h3, h4⟩
theorem empty_row9 (w : World) : (w.alloc (.cells #[] 9)).ownsRow w.heap.size 9 1 (.slice (some ⟨w.heap.size, 0, none⟩) 0 0) 0 [] := ⟨rfl, .inr ⟨w.heap.size, 0, _, rfl, Nat.le_refl _, heap_alloc_new _ _, by omega, by unfold maxLen; omega, rfl, rfl⟩⟩
set_option maxRecDepth 100000 in
set_option maxHeartbeats 8000000 in
theorem perm_walk (v : Value) (L : List Scn) (vn : Value) (N : List ByteArray) (w : World) (h : ScnsAt w v L) (hk : ∀ x ∈ L, x.ok) (hn : NamesAt w vn N) (hnk : ∀ x ∈ N, x.size ≤ maxLen) :
    Calls Try.prog 7 #[v, vn] w fun e w' => e = .returned (.bool true) ∧ Below w.heap.size w w' := by
  have HS := Lib.hid h
  have HN := Lib.hid hn
  have HF := Lib.hid (fun hf => (⟨few_fit (L := L) (N := N) hf hk hnk, by unfold few at hf; rw [Bool.and_eq_true, Bool.and_eq_true, decide_eq_true_iff, decide_eq_true_iff] at hf; exact hf.2.2⟩ : Fit L N ∧ N.length ≤ 20))
  obtain ⟨a1, c1, rfl, -⟩ := h.open
  obtain ⟨an, cn, rfl, -, -⟩ := hn
  clear h hk hnk
  go_enter Try.func7, Try.ntmps7
  go_wp2_with fail
  refine (head_any _).mono ?_
  rintro e w2 ⟨rfl, b2⟩
  replace HS := Lib.hid (HS.out.step b2)
  replace HN := Lib.hid (HN.out.step b2)
  have HB2 := Lib.hid b2
  clear b2
  go_wp2_with fail
  refine (few_call HS.out HN.out).mono ?_
  rintro e w3 ⟨rfl, rfl⟩
  cases hf : few L N.length
  · go_wp2
    go_ret
    exact ⟨rfl, HB2.out⟩
  obtain ⟨ft, h20⟩ := HF.out hf
  have FT := Lib.hid ft
  clear ft hf HF
  go_wp2_with fail
  refine (known_any _ _ L N _ HS.out HN.out).mono ?_
  rintro e w4 ⟨rfl, rfl⟩
  cases hkn : kn L N
  · go_wp2
    go_ret
    exact ⟨rfl, HB2.out⟩
  have HK := Lib.hid hkn
  clear hkn
  obtain ⟨i0, hi, hz0, hz1, hz2⟩ := info_parts info9
  go_wp2_with fail
  go_loopw [6, 7] (fun bv i wr => ∃ k : Nat, k ≤ N.length ∧ i = .int .i64 ((k : Int) - 1) ∧ Hid (wr.ownsRow w2.heap.size 9 1 bv (N.length - k) (((N.drop k).reverse).map Value.string)) ∧ Hid (∀ i, k ≤ i → i < N.length → ∀ j, j < i → ixOf L (nameAt N i) ≠ ixOf L (nameAt N j) → lyr L (ixOf L (nameAt N i)) ≠ lyr L (ixOf L (nameAt N j))) ∧ Hid (Below w2.heap.size w2 wr)) (fun _ i _ => (intOf i + 1).toNat)
  case atStart => exact ⟨N.length, Nat.le_refl _, rfl, by rw [List.drop_length, Nat.sub_self]; exact World.ownsRow_nil _ _ _ _, fun i h1 h2 => absurd h2 (by omega), Below.refl _ _⟩
  case round =>
    obtain ⟨k, hk, rfl, HR, HL, HB⟩ := hrel
    obtain ⟨ba, bc, hbv⟩ := row_slice HR.out
    subst hbv
    rcases k with _ | k
    rotate_left
    · have hk1 : (((k + 1 : Nat) : Int) - 1) = k := by omega
      rw [hk1]
      have hlt : k < N.length := hk
      obtain ⟨nb, no, rfl, n0, nz⟩ := names_cell (HN.out.step HB.out) hlt
      obtain ⟨hix, hil⟩ := fInt_ix HK.out hlt
      have HIX := Lib.hid hix
      have HDR := Lib.hid (drop_rev hlt)
      clear hix
      have c2 : N.length - (k + 1) + 1 ≤ maxLen := by unfold maxLen; omega
      have c3 : (N.length - (k + 1) + 1) * 16 ≤ 140737488355328 := by omega
      obtain ⟨rn, hrn⟩ : ∃ n, N.length - (k + 1) = n := ⟨_, rfl⟩
      rw [hrn] at HR c2 c3 ⊢
      have hrn2 : rn + 1 = N.length - k := by omega
      clear hrn
      replace hrn2 := Lib.hid hrn2
      obtain ⟨nm, hnm⟩ : ∃ nm, nameAt N k = nm := ⟨_, rfl⟩
      rw [hnm] at n0 HIX HDR hil
      replace hnm := Lib.hid hnm
      have HR1 := Lib.hid (HR.out.alloc (.cells #[.string nm] 9))
      have HB1 := Lib.hid (HB.out.trans ((al wr (.cells #[.string nm] 9)).mono HB.out.size))
      go_wp2_with (at_builtin; refine wpList_append_own _ rfl _ _ 23 rfl w2.heap.size 9 i0 _ 1 16 Try.underlying23 hi hz0 hz1 hz2 rfl (by decide) _ _ _ rfl HR1.out ⟨wr.heap.size, 0, none⟩ 1 1 [.string nm] rfl rfl (cell_one_new _ _ _) (by simp [Value.oneCell']) c2 c3 HB1.out.size ?_; intro v' w5 hown hgrow _; have HO := Lib.hid hown; have HG := Lib.hid hgrow; clear hown hgrow)
      have HB5 := Lib.hid (HB1.out.grown HG.out HB1.out.size (fun j hj => row_own HR1.out j hj))
      have HR5 := Lib.hid (show w5.ownsRow w2.heap.size 9 1 v' (rn + 1) (((N.drop k).reverse).map Value.string) from by rw [← HDR.out, List.map_append]; exact HO.out)
      clear HO HG HR1 HB1 HR HB n0 nz
      have HS5 := Lib.hid (HS.out.step HB5.out)
      have HN5 := Lib.hid (HN.out.step HB5.out)
      go_loopw [8] (fun jv wr2 => ∃ j : Nat, j ≤ k ∧ jv = .int .i64 j ∧ Hid (∀ j', j' < j → ixOf L nm ≠ ixOf L (nameAt N j') → lyr L (ixOf L nm) ≠ lyr L (ixOf L (nameAt N j'))) ∧ Hid (Below w5.heap.size w5 wr2)) (fun jv _ => k - (intOf jv).toNat)
      case atStart => exact ⟨0, by omega, rfl, fun j h => absurd h (by omega), Below.refl _ _⟩
      case round =>
        obtain ⟨j, hj, rfl, HJ, HBj⟩ := hrel
        by_cases hjk : j < k
        · obtain ⟨nb2, no2, hna, n1, nz⟩ := names_cell (HN5.out.step HBj.out) (show j < N.length by omega)
          obtain ⟨nb3, no3, hnb, n2, -⟩ := names_cell (HN5.out.step HBj.out) hlt
          cases hna
          cases hnb
          rw [hnm.out] at n2
          obtain ⟨hix2, hil2⟩ := fInt_ix HK.out (show j < N.length by omega)
          have HIX2 := Lib.hid hix2
          clear hix2
          have HJ2 := Lib.hid (show (ixOf L nm ≠ ixOf L (nameAt N j) → lyr L (ixOf L nm) ≠ lyr L (ixOf L (nameAt N j))) → ∀ j', j' < j + 1 → ixOf L nm ≠ ixOf L (nameAt N j') → lyr L (ixOf L nm) ≠ lyr L (ixOf L (nameAt N j')) from fun h j' hj' => by
            by_cases e : j' = j
            · subst e; exact h
            · exact HJ.out j' (by omega))
          have HSj := Lib.hid (HS5.out.step HBj.out)
          obtain ⟨b, off, hab, s1, sz⟩ := scns_cell HSj.out hil
          obtain ⟨b9, off9, hab2, s2, -⟩ := scns_cell HSj.out hil2
          cases hab
          cases hab2
          obtain ⟨nm2, hnm2⟩ : ∃ x, nameAt N j = x := ⟨_, rfl⟩
          rw [hnm2] at n1 HIX2 HJ2 hil2 s2
          clear hnm2
          have bN : (j : Int) < (N.length : Int) := by omega
          have bN2 : (k : Int) < (N.length : Int) := by omega
          go_wp2_with fail
          refine (find_any _ L nm _ HSj.out).mono ?_
          rintro e w6 ⟨rfl, rfl⟩
          rw [HIX.out]
          go_wp2_with fail
          refine (find_any _ L nm2 _ HSj.out).mono ?_
          rintro e w7 ⟨rfl, rfl⟩
          rw [HIX2.out]
          clear HIX2
          generalize ixOf L nm2 = q at *
          obtain ⟨p, hp⟩ : ∃ p, ixOf L nm = p := ⟨_, rfl⟩
          rw [hp] at s1 HJ2 hil ⊢
          have HP := Lib.hid hp
          clear hp
          obtain ⟨lp, hlp⟩ : ∃ x, lyr L p = x := ⟨_, rfl⟩
          obtain ⟨lq, hlq⟩ : ∃ x, lyr L q = x := ⟨_, rfl⟩
          rw [hlp] at s1 HJ2
          rw [hlq] at s2 HJ2
          have HLP := Lib.hid hlp
          clear hlp hlq
          have bp : (p : Int) < (L.length : Int) := by omega
          have bq : (q : Int) < (L.length : Int) := by omega
          by_cases e1 : p = q
          · have e2 : ((p : Int) != (q : Int)) = false := by simp [e1]
            have HJ3 := Lib.hid (HJ2.out (fun h => absurd e1 h))
            clear HJ2
            go_wp2_with fail
            go_quiet (fail)
            go_wp2
            go_roundw
            case rel => exact ⟨j + 1, by omega, by go_num, by rw [HP.out, HLP.out]; exact HJ3, Lib.hid (HBj.out.trans (below_drewN' _ _ _))⟩
            case measure => simp [intOf]; omega
          · have e2 : ((p : Int) != (q : Int)) = true := by simp; omega
            have e3 : ((p : Int) == (q : Int)) = false := by simp; omega
            by_cases e4 : lp = lq
            · have e5 : (lp == lq) = true := by simpa using e4
              have e6 : decide (lp = lq) = true := by simpa using e4
              go_wp2_with fail
              go_quiet (fail)
              go_wp2
              go_ret
              exact ⟨rfl, keep2 ((HB5.out.trans (HBj.out.mono HB5.out.size)).trans (below_drewN' _ _ _)) HB2.out⟩
            · have e5 : (lp == lq) = false := by simpa using e4
              have e6 : decide (lp = lq) = false := by simpa using e4
              have HJ3 := Lib.hid (HJ2.out (fun _ => e4))
              clear HJ2
              go_wp2_with fail
              go_quiet (fail)
              go_wp2
              go_roundw
              case rel => exact ⟨j + 1, by omega, by go_num, by rw [HP.out, HLP.out]; exact HJ3, Lib.hid (HBj.out.trans (below_drewN' _ _ _))⟩
              case measure => simp [intOf]; omega
        · have hjk2 : j = k := by omega
          have HL2 := Lib.hid (show ∀ i, k ≤ i → i < N.length → ∀ j, j < i → ixOf L (nameAt N i) ≠ ixOf L (nameAt N j) → lyr L (ixOf L (nameAt N i)) ≠ lyr L (ixOf L (nameAt N j)) from fun i h1 h2 j' h3 => by
            by_cases e : i = k
            · subst e; rw [hnm.out]; exact HJ.out j' (by omega)
            · exact HL.out i (by omega) h2 j' h3)
          have HR6 := Lib.hid (row_step9 HR5.out HBj.out)
          have HB6 := Lib.hid (HB5.out.trans (HBj.out.mono HB5.out.size))
          clear HJ HL HR5
          go_wp2
          go_roundw
          case rel => exact ⟨k, by omega, by first | rfl | go_num, by rw [← hrn2.out]; exact HR6, HL2, HB6⟩
          case measure => simp [intOf] <;> omega
    clear hk
    have HD := Lib.hid (all_ne HL.out)
    clear HL
    rw [List.drop_zero, Nat.sub_zero] at HR
    have HM := Lib.hid (names_of_row (L := N.reverse) (by rw [List.length_reverse]; exact HR.out) (by rw [List.length_reverse]; unfold maxLen; omega))
    clear HR
    rw [Nat.sub_zero]
    replace HS := Lib.hid (HS.out.step HB.out)
    replace HN := Lib.hid (HN.out.step HB.out)
    replace HB := Lib.hid (keep2 HB.out HB2.out)
    have hszs := FT.out.sizes
    have F2 := Lib.hid (show Fit L N.reverse from ⟨FT.out.ok, FT.out.sets, FT.out.len, fun y hy => hszs y (List.mem_reverse.1 hy), by rw [List.length_reverse]; omega⟩)
    have F3 := Lib.hid (show Fit L (N ++ N) from ⟨FT.out.ok, FT.out.sets, FT.out.len, fun y hy => (List.mem_append.1 hy).elim (hszs y) (hszs y), by rw [List.length_append]; omega⟩)
    clear hszs HB2
    go_wp2_with fail
    refine (overlay_any _ _ L N _ HS.out HN.out FT.out).mono ?_
    rintro e w5 ⟨ho, b5⟩
    obtain ⟨xa, xc, rfl, hx⟩ := ov_known HK.out ho
    clear ho
    have HX := Lib.hid hx
    replace HS := Lib.hid (HS.out.step b5)
    replace HN := Lib.hid (HN.out.step b5)
    replace HM := Lib.hid (HM.out.step b5)
    replace HB := Lib.hid (keep2 b5 HB.out)
    clear b5 hx
    go_wp2_with fail
    refine (overlay_any _ _ L N.reverse _ HS.out HM.out F2.out).mono ?_
    rintro e w6 ⟨ho, b6⟩
    obtain ⟨ya, yc, rfl, hy⟩ := ov_known (kn_rev HK.out) ho
    clear ho
    have HY := Lib.hid hy
    rw [ovl_rev_len HK.out] at HY ⊢
    replace HS := Lib.hid (HS.out.step b6)
    replace HN := Lib.hid (HN.out.step b6)
    replace HX := Lib.hid (HX.out.step b6)
    replace HB := Lib.hid (keep2 b6 HB.out)
    clear b6 hy HM
    obtain ⟨ca, cc, cn9⟩ := ncells2 HN.out
    have hN1 : 0 + N.length ≤ maxLen := by unfold maxLen; omega
    have E0 := empty_row9 w6
    obtain ⟨v5, y5, q5, q6, q7⟩ := run_app_gen (ty := 23) Try.underlying23 hi hz0 hz1 hz2 rfl (by decide) (w6.alloc (.cells #[] 9)) w6.heap.size 0 (.slice (some ⟨w6.heap.size, 0, none⟩) 0 0) [] E0 an N.length cn (N.map Value.string) ca (fun ad had j u hu => keep1 (al _ _) (cc ad had j u hu)) cn9 (fun u hu => by obtain ⟨s, -, rfl⟩ := List.mem_map.1 hu; rfl) hN1 (by omega) (al _ _).size
    rw [Nat.zero_add, List.nil_append] at q6
    have b7 : Below w6.heap.size w6 y5 := (al w6 (.cells #[] 9)).grown q7 (al _ _).size (fun k e => by cases e; exact Nat.le_refl _)
    obtain ⟨v6, y6, r5, r6, r7⟩ := run_app_gen (ty := 23) Try.underlying23 hi hz0 hz1 hz2 rfl (by decide) y5 w6.heap.size N.length v5 (N.map Value.string) q6 an N.length cn (N.map Value.string) ca (fun ad had j u hu => keep1 b7 (cc ad had j u hu)) cn9 (fun u hu => by obtain ⟨s, -, rfl⟩ := List.mem_map.1 hu; rfl) (by unfold maxLen; omega) (by omega) b7.size
    have b8 : Below w6.heap.size w6 y6 := b7.grown r7 b7.size (fun k e => row_own q6 k e)
    obtain ⟨va, vc, rfl⟩ := row_slice r6
    have HM := Lib.hid (names_of_row (L := N ++ N) (by rw [List.length_append, List.map_append]; exact r6) (by rw [List.length_append]; unfold maxLen; omega))
    replace HS := Lib.hid (HS.out.step b8)
    replace HX := Lib.hid (HX.out.step b8)
    replace HY := Lib.hid (HY.out.step b8)
    replace HB := Lib.hid (keep2 b8 HB.out)
    clear ca cc cn9 hN1 E0 q6 q7 b7 r6 r7 b8 HN
    go_wp2_with (first | (at_builtin; refine wpList_app_g _ _ 23 rfl (by simp [Region.wanted]) _ _ v5 rfl rfl q5 ?_) | (at_builtin; refine wpList_app_g _ _ 23 rfl (by simp [Region.wanted]) _ _ _ rfl rfl r5 ?_))
    refine (overlay_any _ _ L (N ++ N) _ HS.out HM.out F3.out).mono ?_
    rintro e w8 ⟨ho, b8⟩
    obtain ⟨za, zc, rfl, hz⟩ := ov_known (kn_twice HK.out) ho
    clear ho q5 r5
    rw [ovl_twice HK.out HD.out] at hz ⊢
    have HZ := Lib.hid hz
    replace HX := Lib.hid (HX.out.step b8)
    replace HY := Lib.hid (HY.out.step b8)
    replace HB := Lib.hid (keep2 b8 HB.out)
    clear b8 hz HS HM
    have hq1 : (((ovl L N).length : Int) != ((ovl L N).length : Int)) = false := by simp
    have hov := ovl_len FT.out HK.out
    go_wp2_with fail
    refine (same_any _ _ _ _ _ HX.out HZ.out).mono ?_
    rintro e w9 ⟨rfl, b9⟩
    rw [eqL_refl]
    replace HX := Lib.hid (HX.out.step b9)
    replace HY := Lib.hid (HY.out.step b9)
    replace HB := Lib.hid (keep2 b9 HB.out)
    clear b9 HZ
    go_wp2_with fail
    obtain ⟨xl, hxl⟩ : ∃ n, (ovl L N).length = n := ⟨_, rfl⟩
    rw [hxl] at HX HY hov ⊢
    clear hq1
    replace hxl := Lib.hid hxl
    go_loopw [17] (fun i wr => ∃ k : Nat, k ≤ xl ∧ i = .int .i64 k ∧ Hid (Below w9.heap.size w9 wr)) (fun i _ => xl - (intOf i).toNat)
    case atStart => exact ⟨0, by omega, rfl, Below.refl _ _⟩
    case round =>
      obtain ⟨k, hk, rfl, HW⟩ := hrel
      by_cases hlt : k < xl
      · have hlo : k < (ovl L N).length := by rw [hxl.out]; exact hlt
        obtain ⟨s1, s2⟩ := ovl_rev_of HK.out HD.out hlo
        obtain ⟨a9, c9, hv9, -, hx9⟩ := HX.out.step HW.out
        rw [hxl.out] at hv9
        cases hv9
        obtain ⟨b, off, rfl, hcs⟩ := hx9 (by intro h; rw [h] at hlo; simp at hlo)
        obtain ⟨x0, x1, x2, x3, x4⟩ := hcs k _ (getD_of hlo)
        clear hcs hx9
        have xz := World.block_lt_of_cell? _ _ x0
        have xz : b < wr.heap.size := xz
        have HOF := Lib.hid (fun W (hW : Below wr.heap.size wr W) => of_any _ (ovl L N.reverse) ((ovl L N).getD k zS).dev ((ovl L N).getD k zS).attr W ((HY.out.step HW.out).step hW))
        unfold LastPost at HOF
        rw [s1, s2] at HOF
        clear s1 s2
        generalize (ovl L N).getD k zS = s at *
        obtain ⟨sd, sa, sn, st, su⟩ := s
        simp only [Sett.val] at x0 x1 x2 x3 x4 HOF
        have bk : (k : Int) < (xl : Int) := by omega
        go_wp2_with fail
        refine (HOF.out _ (Below.refl _ _)).mono ?_
        rintro e w10 ⟨rfl, b10⟩
        have HWn := Lib.hid (HW.out.trans ((b10.trans ((al w10 (.cells #[.string sd, .string sa, .string sn, .int .i64 st, .string su] 40)).mono b10.size)).mono HW.out.size))
        have B11 := b10.trans ((al w10 (.cells #[.string sd, .string sa, .string sn, .int .i64 st, .string su] 40)).mono b10.size)
        have y0 := keep1 B11 x0
        have y1 := keep1 B11 x1
        have y2 := keep1 B11 x2
        have y3 := keep1 B11 x3
        have y4 := keep1 B11 x4
        have yz := Nat.lt_of_lt_of_le xz b10.size
        have yz2 : b < w10.heap.size + 1 := by omega
        clear x0 x1 x2 x3 x4 xz B11 HOF b10
        go_wp2_with fail
        go_quiet (fail)
        go_wp2
        go_roundw
        case rel => exact ⟨k + 1, by omega, by go_num, Lib.hid (HWn.out.trans (below_drewN' _ _ _))⟩
        case measure => simp [intOf]; omega
      · have hke : k = xl := by omega
        go_wp2
        go_ret
        exact ⟨rfl, keep2 HW.out HB.out⟩
end Go.Proofs.Ytloilkfloidnjaa
