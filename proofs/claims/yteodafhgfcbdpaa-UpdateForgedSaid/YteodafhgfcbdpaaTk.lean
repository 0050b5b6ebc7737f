import Derived.Test.YteodafhgfcbdpaaRb
import Derived.Test.YteodafhgfcbdpaaTh
namespace Go.Proofs.Yteodafhgfcbdpaa
open Go.RowKit

theorem prs_len : ∀ (n : Nat) (row : List Int), row.length ≤ n → (prs row).length = row.length / 2
  | 0, row, h => by
    obtain rfl : row = [] := List.length_eq_zero_iff.1 (by omega)
    rfl
  | n + 1, row, h => by
    match row, h with
    | [], _ => simp [prs]
    | [y], _ => simp [prs]
    | x :: y :: r, h =>
      have h2 : r.length + 1 + 1 ≤ n + 1 := by simpa using h
      rw [prs, List.length_cons, prs_len n r (by omega), List.length_cons, List.length_cons]
      omega
theorem prs_take : ∀ (j : Nat) (row : List Int), 2 * j + 1 < row.length → (prs row).take (j + 1) = (prs row).take j ++ [[1, row.getD (2 * j) 0, row.getD (2 * j + 1) 0]]
  | 0, row, h => by
    match row, h with
    | x :: y :: r, _ => simp [prs]
  | j + 1, row, h => by
    match row, h with
    | x :: y :: r, h =>
      have e : 2 * (j + 1) = 2 * j + 1 + 1 := by omega
      have h2 : 2 * (j + 1) + 1 < r.length + 1 + 1 := by simpa using h
      rw [prs, List.take_succ_cons, prs_take j r (by omega), e, List.getD_cons_succ, List.getD_cons_succ, List.getD_cons_succ, List.getD_cons_succ, List.take_succ_cons]
      rfl
theorem allP_app (A B : List (List Int)) : allP (A ++ B) = allP A ++ allP B := by
  induction A with
  | nil => rfl
  | cons x r ih => rw [List.cons_append, allP, allP, ih, List.append_assoc]
theorem allP_take {Rs : List (List Int)} {k : Nat} (h : k < Rs.length) : allP (Rs.take (k + 1)) = allP (Rs.take k) ++ prs (Rs.getD k []) := by
  rw [take_snoc h, allP_app]
  simp [allP]
theorem allP_last : ∀ (n : Nat) (row : List Int), row.length ≤ n → row ≠ [] → allP (rowsT row) = allP ((rowsT row).take ((rowsT row).length - 1))
  | 0, row, h, hn => absurd (List.length_eq_zero_iff.1 (by omega)) hn
  | n + 1, row, h, hn => by
    have h0 := List.length_pos_iff.2 hn
    by_cases g : 1 < row.length
    · have hu : upR row ≠ [] := fun e => by have := upR_len row; rw [e] at this; simp at this; omega
      have h1 := rowsT_pos hu
      obtain ⟨m, hm⟩ : ∃ m, (rowsT (upR row)).length = m + 1 := ⟨(rowsT (upR row)).length - 1, by omega⟩
      have ih := allP_last n (upR row) (by rw [upR_len]; omega) hu
      rw [rowsT_more g, List.length_cons, hm, Nat.add_sub_cancel, List.take_succ_cons, allP, allP, ih, hm, Nat.add_sub_cancel]
    · obtain ⟨x, rfl⟩ := List.length_eq_one_iff.1 (show row.length = 1 by omega)
      rw [rowsT_one (by rfl)]
      rfl
theorem allP_len : ∀ (n : Nat) (row : List Int), row.length ≤ n → row ≠ [] → (allP (rowsT row)).length + 1 ≤ row.length
  | 0, row, h, hn => absurd (List.length_eq_zero_iff.1 (by omega)) hn
  | n + 1, row, h, hn => by
    have h0 := List.length_pos_iff.2 hn
    by_cases g : 1 < row.length
    · have hu : upR row ≠ [] := fun e => by have := upR_len row; rw [e] at this; simp at this; omega
      have ih := allP_len n (upR row) (by rw [upR_len]; omega) hu
      rw [upR_len] at ih
      rw [rowsT_more g, allP, List.length_append, prs_len _ row (Nat.le_refl _)]
      omega
    · obtain ⟨x, rfl⟩ := List.length_eq_one_iff.1 (show row.length = 1 by omega)
      rw [rowsT_one (by rfl)]
      simp [allP, prs]
theorem allP_sub (Rs : List (List Int)) : ∀ k, (allP (Rs.take k)).length ≤ (allP Rs).length := fun k => by
  have h : allP Rs = allP (Rs.take k) ++ allP (Rs.drop k) := by rw [← allP_app, List.take_append_drop]
  rw [h, List.length_append]
  omega
/-- The lists of the leaves. -/
def lvL (L : List (List Int)) : List (List Int) := L.flatMap fun l => [l, [0, Dg l]]
theorem lvL_take {L : List (List Int)} {k : Nat} (h : k < L.length) : lvL (L.take (k + 1)) = lvL (L.take k) ++ [L.getD k [], [0, Dg (L.getD k [])]] := by
  unfold lvL
  rw [take_snoc h, List.flatMap_append]
  simp
theorem lvL_len (L : List (List Int)) : (lvL L).length = 2 * L.length := by
  unfold lvL
  induction L with
  | nil => rfl
  | cons x r ih => rw [List.flatMap_cons, List.length_append, ih]; simp; omega
theorem trL_is (L : List (List Int)) : trL L = lvL L ++ allP (rowsT (lvs L)) := rfl
theorem trL_len {L : List (List Int)} (h : L ≠ []) : (trL L).length ≤ 3 * L.length := by
  have hn : lvs L ≠ [] := fun e => h (by have := congrArg List.length e; rw [lvs_len] at this; exact List.length_eq_zero_iff.1 this)
  have := allP_len _ (lvs L) (Nat.le_refl _) hn
  rw [lvs_len] at this
  rw [trL_is, List.length_append, lvL_len]
  omega
theorem ListsR.base {n0 n1 : Nat} {Ls : List (List Int)} {lv : Value} {W : World} (h : ListsR n0 Ls lv W) (hn : n1 ≤ n0) : ListsR n1 Ls lv W := by
  obtain ⟨xs, h1, h2⟩ := h
  refine ⟨xs, row_base h1 hn, fun i x hi => ?_⟩
  obtain ⟨u, e1, e2, e3⟩ := h2 i x hi
  exact ⟨u, e1, e2, row_base e3 hn⟩
/-- Two more lists behind the others. -/
theorem ListsR.snoc2 {n0 : Nat} {Ls : List (List Int)} {l k : List Int} {lv lv' u t : Value} {xs : List Value} {W W' : World} (h : ∀ (i : Nat) (x : List Int), Ls[i]? = some x → ∃ u, xs[i]? = some u ∧ u.oneCell' = true ∧ W.ownsRow n0 3 1 u x.length (x.map (Value.int .i64))) (hl : xs.length = Ls.length) (hown : W.ownsRow n0 22 1 lv Ls.length xs)
    (hu : W.ownsRow n0 3 1 u l.length (l.map (Value.int .i64))) (h1 : u.oneCell' = true) (ht : W.ownsRow n0 3 1 t k.length (k.map (Value.int .i64))) (h2 : t.oneCell' = true) (hgrow : W.grownBy W' lv.ownBlock) (hown' : W'.ownsRow n0 22 1 lv' (Ls.length + 2) (xs ++ [u, t])) : ListsR n0 (Ls ++ [l, k]) lv' W' := by
  have ap : ∀ {y : Value} {x : List Int}, W.ownsRow n0 3 1 y x.length (x.map (Value.int .i64)) → W'.ownsRow n0 3 1 y x.length (x.map (Value.int .i64)) := fun hy => row_grown hy hgrow (fun k e => row_type hy hown (by decide) e)
  refine ⟨xs ++ [u, t], by rw [List.length_append]; exact hown', fun i x hi => ?_⟩
  by_cases hlt : i < Ls.length
  · rw [List.getElem?_append_left hlt] at hi
    obtain ⟨y, e1, e2, e3⟩ := h i x hi
    exact ⟨y, by rw [List.getElem?_append_left (by omega)]; exact e1, e2, ap e3⟩
  · obtain ⟨j, rfl⟩ : ∃ j, i = Ls.length + j := ⟨i - Ls.length, by omega⟩
    rw [List.getElem?_append_right (by omega), Nat.add_sub_cancel_left] at hi
    rw [List.getElem?_append_right (by omega), show Ls.length + j - xs.length = j by omega]
    rcases j with _ | _ | j
    · cases hi; exact ⟨u, rfl, h1, ap hu⟩
    · cases hi; exact ⟨t, rfl, h2, ap ht⟩
    · simp at hi
theorem two_at {W : World} {g : Nat} {x y : Value} (h : Cs W g #[x, y]) : ∀ j u, ([x, y] : List Value)[j]? = some u → W.cell? ((⟨g, 0, none⟩ : Addr).add j) = some u := fun j u hu => by
  rw [Go.WideShapes.add_plain, Nat.zero_add]
  exact h.c j (by simpa using hu)
/-- An append whose equation is known, at a step of a region that draws its order. -/
theorem step_app {ops : Array Oper} {o : Oper} {a : Act} {w w' : World} {K : Act → World → Prop} {Q : Exit → Act → World → Prop} {E : Prop} (hgd : o.guard = none) (s x : Operand) (t : TypeId)
    (ho : o.op = .call { callee := .builtin .append, args := #[s, x], argTypes := #[t, t] }) (v sl v' : Value) (hs : a.eval s = v) (hx : a.eval x = sl)
    (hr : (Builtin.append_ #[t, t] o.type #[v, sl]).run Try.prog w = .ok v' w') (h : K (a.put o.dst v') w') :
    if Region.wanted o (yielded ops a.tmps) = true then Oper.wp Try.prog o a w K Q else E := by
  have hw : Region.wanted o (yielded ops a.tmps) = true := by simp [Region.wanted, hgd]
  rw [if_pos hw]
  unfold Oper.wp execOp
  simp only [ho, resolve, invoke, builtin, Sem.run_bind, Sem.run_pure, Result.andThen_ok, List.map_toArray, List.map_cons, List.map_nil, hs, hx, hr]
  exact h
theorem getD_mem {L : List (List Int)} {k : Nat} (h : k < L.length) : L.getD k [] ∈ L := by
  rw [show L.getD k [] = L[k] by simp [h]]
  exact List.getElem_mem h
theorem upR_le (row : List Int) : (upR row).length ≤ row.length := by rw [upR_len]; omega
theorem rowsF_el : ∀ (n : Nat) (row : List Int), ∀ x ∈ rowsF n row, x.length ≤ row.length
  | 0, row, x, h => by cases h
  | n + 1, row, x, h => by
    unfold rowsF at h
    by_cases g : 1 < row.length
    · rw [if_pos g] at h
      rcases List.mem_cons.1 h with rfl | h
      · exact Nat.le_refl _
      · exact Nat.le_trans (rowsF_el n (upR row) x h) (upR_le row)
    · rw [if_neg g] at h
      by_cases g1 : row.length = 1
      · rw [if_pos g1] at h
        rcases List.mem_cons.1 h with rfl | h
        · exact Nat.le_refl _
        · cases h
      · rw [if_neg g1] at h; cases h
open Go.RowKit

set_option maxRecDepth 100000 in
set_option maxHeartbeats 8000000 in
theorem rlists_any (v : Value) (L : List (List Int)) (w : World) (h : RowsAt w v L) (h9 : L.length ≤ 200) (h1 : 0 < L.length) (hx9 : ∀ x ∈ L, x.length ≤ 5000) :
    Calls Try.prog 27 #[v] w fun e w' => ∃ u, e = .returned u ∧ ListsR w.heap.size (trL L) u w' ∧ Below w.heap.size w w' := by
  have HR0 := Lib.hid h
  obtain ⟨a, cap, rfl, -, -⟩ := h
  have H9 := Lib.hid h9
  have H1 := Lib.hid h1
  have HX9 := Lib.hid hx9
  obtain ⟨j0, ki, kz0, kz1, kz2⟩ := info_parts infoSl
  have KI := Lib.hid (show _ ∧ _ ∧ _ ∧ _ from ⟨ki, kz0, kz1, kz2⟩)
  have hn : lvs L ≠ [] := fun e => by have := congrArg List.length e; rw [lvs_len, List.length_nil] at this; omega
  have HN0 := Lib.hid (rowsT_pos hn)
  have HL9 := Lib.hid (show (rowsT (lvs L)).length ≤ 200 from Nat.le_trans (rowsF_len (lvs L).length (lvs L)) (by rw [lvs_len]; exact h9))
  have HAL := Lib.hid (allP_last _ (lvs L) (Nat.le_refl _) hn)
  have HAN := Lib.hid (show (allP (rowsT (lvs L))).length ≤ 200 by have := allP_len _ (lvs L) (Nat.le_refl _) hn; rw [lvs_len] at this; omega)
  have HRL := Lib.hid (show ∀ x ∈ rowsT (lvs L), x.length ≤ 200 from fun x hx => Nat.le_trans (rowsF_el _ (lvs L) x hx) (by rw [lvs_len]; exact h9))
  have HT0 := Lib.hid (trL_is L)
  clear hn h9 h1 hx9 ki kz0 kz1 kz2
  go_enter Try.func27, Try.ntmps27
  go_wp2_with fail
  refine (rtree_any _ L _ HR0.out (by have := H9.out; omega) H1.out).mono ?_
  rintro e w1 ⟨⟨u, rfl, hu⟩, b1⟩
  have HB := Lib.hid b1
  have HT := Lib.hid (hu.rows (by have := HL9.out; omega))
  obtain ⟨ua, uc, rfl⟩ := hu.slice
  have HR := Lib.hid (HR0.out.step b1)
  clear b1 hu HR0
  obtain ⟨Rs, hRs⟩ : ∃ Rs, rowsT (lvs L) = Rs := ⟨_, rfl⟩
  rw [hRs] at HAL HAN HN0 HL9 HRL HT HT0 ⊢
  clear hRs
  have g1 : decide ((Rs.length : Int) > 0) = true := by simp; exact HN0.out
  have g2 : decide ((0 : Int) < (Rs.length : Int)) = true := by simp; exact HN0.out
  have g3 : 0 < Rs.length := HN0.out
  have g4 : ¬ Rs = [] := fun e => by have := HN0.out; rw [e] at this; simp at this
  obtain ⟨W1, hW1⟩ : ∃ z, z = w1 := ⟨_, rfl⟩
  subst hW1
  go_wp2_with fail
  go_loopw [3, 5] (fun ov iv wr => ∃ k : Nat, k ≤ L.length ∧ iv = .int .i64 k ∧ Hid (ListsR W1.heap.size (lvL (L.take k)) ov wr) ∧ Hid (Below W1.heap.size W1 wr)) (fun _ iv _ => L.length - (intOf iv).toNat)
  case atStart => exact ⟨0, by omega, rfl, Lib.hid (ListsR.nil _ _), Lib.hid (Below.refl _ _)⟩
  case round =>
    obtain ⟨k, hk, rfl, HO, HW⟩ := hrel
    obtain ⟨oa, oc, rfl⟩ := HO.out.slice
    have hk9 : k ≤ 200 := Nat.le_trans hk H9.out
    by_cases hlt : k < L.length
    · have HLT := Lib.hid hlt
      have t1 : decide ((k : Int) < L.length) = true := by simp; omega
      have t2 : (k : Int) < L.length := by omega
      have t3 : (0 : Int) ≤ k := by omega
      have HTK := Lib.hid (lvL_take hlt)
      have HLN := Lib.hid (show (lvL (L.take k)).length ≤ 400 by rw [lvL_len, List.length_take]; omega)
      obtain ⟨a2, cap2, hva, -, hcs⟩ := HR.out.step HW.out
      obtain ⟨rfl, rfl⟩ : a = a2 ∧ cap = cap2 := by simpa using hva
      obtain ⟨b, off, rfl, hcs2⟩ := hcs (by intro h; rw [h] at hlt; simp at hlt)
      obtain ⟨s, x0, hs⟩ := hcs2 k _ (rows_get hlt)
      have HXK := Lib.hid (HX9.out (L.getD k []) (getD_mem hlt))
      clear hcs hcs2 hva hk
      generalize L.getD k [] = x at *
      have HS := Lib.hid hs
      obtain ⟨v5, w5, hr5, ho5, hb5⟩ := copy_run wr.drew s x 22 (hs.step (below_drew _ _)) HXK.out
      obtain ⟨sa, sc, rfl, -, -⟩ := hs
      have HR5 := Lib.hid hr5
      have HB5 := Lib.hid (show Below wr.heap.size wr w5 from (below_drew _ _).trans hb5)
      have HO5 := Lib.hid (show w5.ownsRow wr.heap.size 3 1 v5 x.length (x.map (Value.int .i64)) from ho5)
      obtain ⟨va, vc, rfl⟩ := row_slice ho5
      obtain ⟨xs, hown, hxs⟩ := HO.out
      have HOW := Lib.hid hown
      have HXS := Lib.hid hxs
      have HXL := Lib.hid (show xs.length = (lvL (L.take k)).length by have := hown.1; omega)
      clear hr5 hb5 ho5 hown hxs HO
      obtain ⟨m, hm⟩ : ∃ m, lvL (L.take k) = m := ⟨_, rfl⟩
      rw [hm] at HOW HXS HXL HTK HLN ⊢
      clear hm
      obtain ⟨d, hd⟩ : ∃ d, Dg x = d := ⟨_, rfl⟩
      rw [hd] at HTK
      have HD := Lib.hid hd
      clear hd
      have k1 : m.length + 2 ≤ maxLen := by have := HLN.out; unfold maxLen; omega
      have k2 : (m.length + 2) * 24 ≤ 140737488355328 := by have := HLN.out; omega
      have HWS := Lib.hid HW.out.size
      go_wp2_with fail
      have xgz := World.block_lt_of_cell? _ _ x0
      have xgz : b < wr.heap.size := xgz
      have x5 := keep1 HB5.out x0
      go_region_law (first | (go_simp; go_at_call 63; refine (rsum_any _ x _ (HS.out.step HB5.out)).mono ?_; rintro e w3 ⟨rfl, n3, hw3⟩; rw [HD.out]; have HB3 := Lib.hid (show Below w5.heap.size w5 w3 from hw3 ▸ below_drewN' _ _ _); clear hw3; have HB4 := Lib.hid ((HB3.out.alloc HB3.out.size (.cells #[.int .i64 0, .int .i64 d] 3))); have HB6 := Lib.hid (show Below wr.heap.size wr ((w3.alloc (.cells #[.int .i64 0, .int .i64 d] 3)).alloc (.cells #[.slice va x.length vc, .slice (some ⟨w3.heap.size, 0, none⟩) 2 2] 22)) from keep2 ((HB4.out.alloc HB4.out.size _)) HB5.out); have HC6 := Lib.hid (Cs.new (w3.alloc (.cells #[.int .i64 0, .int .i64 d] 3)) (w3.heap.size + 1) #[.slice va x.length vc, .slice (some ⟨w3.heap.size, 0, none⟩) 2 2] 22 (by simp)); have c3 := Lib.hid (Nat.le_trans HWS.out HB6.out.size)) | (refine step_app rfl _ _ 22 rfl _ _ (.slice va x.length vc) rfl rfl HR5.out ?_) | (refine step_append_lies _ rfl _ _ 25 rfl W1.heap.size 22 j0 (.slice none 0 0) 1 24 Try.underlying25 KI.out.1 KI.out.2.1 KI.out.2.2.1 KI.out.2.2.2 rfl (by decide) _ _ _ rfl (row_step HOW.out HB6.out) ⟨w3.heap.size + 1, 0, none⟩ 2 2 [.slice va x.length vc, .slice (some ⟨w3.heap.size, 0, none⟩) 2 2] rfl rfl (two_at HC6.out) (by simp [Value.oneCell']) (by decide) k1 k2 c3.out _ rfl ?_; intro g' cap' w7 hown' hgrow hz9 hz8; clear hz9 hz8; have HL7 := Lib.hid (ListsR.snoc2 (W := (w3.alloc (.cells #[.int .i64 0, .int .i64 d] 3)).alloc (.cells #[.slice va x.length vc, .slice (some ⟨w3.heap.size, 0, none⟩) 2 2] 22)) (Ls := m) (l := x) (k := [0, d]) (fun i y h => by obtain ⟨u, e1, e2, e3⟩ := HXS.out i y h; exact ⟨u, e1, e2, row_step e3 HB6.out⟩) HXL.out (row_step HOW.out HB6.out) (row_base (row_step (row_step (row_step HO5.out HB3.out) (al _ _)) (al _ _)) HWS.out) rfl (row_step (row_lit [0, d] #[.int .i64 0, .int .i64 d] rfl (by simp) (Nat.le_trans HWS.out (Nat.le_trans HB5.out.size HB3.out.size)) 2 rfl) (al _ _)) rfl hgrow hown'); have HB7 := Lib.hid ((HW.out.trans (HB6.out.mono HWS.out)).grown hgrow c3.out (fun k e => row_own (row_step HOW.out HB6.out) e)); clear hown' hgrow))
      all_goals clear x0 x5 k1 k2
      all_goals go_wp2
      all_goals go_roundw
      all_goals first | exact ⟨k + 1, HLT.out, by go_num, Lib.hid (by rw [HTK.out]; exact HL7.out), HB7⟩ | (simp [intOf]; omega)
    · obtain rfl : k = L.length := by omega
      have t1 : decide ((L.length : Int) < L.length) = false := by simp
      have HO1 := Lib.hid (show ListsR W1.heap.size (lvL L) (.slice oa (lvL (L.take L.length)).length oc) wr from by have h := HO.out; rw [List.take_length] at h ⊢; exact h)
      have HLL := Lib.hid (show (lvL (L.take L.length)).length = (lvL L).length by rw [List.take_length])
      have HL4 := Lib.hid (show (lvL L).length ≤ 400 by rw [lvL_len]; have := H9.out; omega)
      rw [HLL.out] at HO1 ⊢
      clear HO HLL hk hlt hk9
      go_wp2_with fail
      have HWA := Lib.hid HW.out
      clear HW t1
      obtain ⟨bl, hbl⟩ : ∃ z, lvL L = z := ⟨_, rfl⟩
      rw [hbl] at HO1 HL4 HT0 ⊢
      clear hbl
      go_loopw [3, 6] (fun ov kv wr => ∃ k : Nat, k + 1 ≤ Rs.length ∧ kv = .int .i64 k ∧ Hid (ListsR W1.heap.size (bl ++ allP (Rs.take k)) ov wr) ∧ Hid (Below W1.heap.size W1 wr)) (fun _ kv _ => Rs.length - (intOf kv).toNat)
      case atStart => exact ⟨0, HN0.out, rfl, Lib.hid (by rw [List.take_zero, allP, List.append_nil]; exact HO1.out), HWA⟩
      case round =>
        clear HO1 HWA g1 g2
        obtain ⟨k, hk, rfl, HO, HW⟩ := hrel
        obtain ⟨oa2, oc2, rfl⟩ := HO.out.slice
        have hk9 : k ≤ 200 := by have := HL9.out; omega
        have hkw : wrap64 ((k : Int) + 1) = k + 1 := IntWalk.wrap64_in _ (by omega)
        have HK8 := Lib.hid (show ((k + 1 : Nat) : Int) = (k : Int) + 1 by omega)
        have HLN := Lib.hid (show (bl ++ allP (Rs.take k)).length ≤ 600 by rw [List.length_append]; have h1 := allP_sub Rs k; have h2 := HAN.out; have h3 := HL4.out; omega)
        by_cases hlt : k + 1 < Rs.length
        · have HK1 := Lib.hid (show k + 1 + 1 ≤ Rs.length from hlt)
          have t1 : decide ((k : Int) + 1 < Rs.length) = true := by simp; omega
          have t2 : ((k : Int) + 1 < Rs.length) = True := by simp; omega
          have t3 : (k : Int) < Rs.length := by omega
          have t4 : k < Rs.length := by omega
          have t5 : (0 : Int) ≤ k := by omega
          have HAK := Lib.hid (allP_take t4)
          obtain ⟨a2, cap2, hva, -, hcs⟩ := HT.out
          obtain ⟨rfl, rfl⟩ : ua = a2 ∧ uc = cap2 := by simpa using hva
          obtain ⟨b, off, rfl, hcs2⟩ := hcs (by intro h; rw [h] at t4; simp at t4)
          obtain ⟨s, x0, hs⟩ := hcs2 k _ (rows_get t4)
          have HX0 := Lib.hid x0
          have HS := Lib.hid hs
          have HXK := Lib.hid (HRL.out (Rs.getD k []) (getD_mem t4))
          clear hcs hcs2 hva hk x0 hlt
          obtain ⟨x, hx⟩ : ∃ x, Rs.getD k [] = x := ⟨_, rfl⟩
          rw [hx] at HS hs HXK HAK
          clear hx
          obtain ⟨sa, sc, rfl, -, -⟩ := hs
          obtain ⟨m, hm⟩ : ∃ m, bl ++ allP (Rs.take k) = m := ⟨_, rfl⟩
          rw [hm] at HO HLN ⊢
          have HM := Lib.hid (show bl ++ allP (Rs.take (k + 1)) = m ++ prs x by rw [HAK.out, ← List.append_assoc, hm])
          have HPL := Lib.hid (prs_len _ x (Nat.le_refl _))
          clear hm HAK
          go_wp2_with fail
          clear t1 t2
          obtain ⟨W2, hW2⟩ : ∃ z, z = wr := ⟨_, rfl⟩
          subst hW2
          go_loopw [3, 7] (fun ov iv wr => ∃ j : Nat, 2 * j ≤ x.length ∧ iv = .int .i64 ((2 * j : Nat) : Int) ∧ Hid (ListsR W1.heap.size (m ++ (prs x).take j) ov wr) ∧ Hid (Below W1.heap.size W1 wr)) (fun _ iv _ => x.length + 1 - (intOf iv).toNat)
          case atStart => exact ⟨0, by omega, rfl, Lib.hid (by rw [List.take_zero, List.append_nil]; exact HO.out), HW⟩
          case round =>
            clear HO HW
            obtain ⟨j, hj, rfl, HO, HW⟩ := hrel
            obtain ⟨pa, pc, rfl⟩ := HO.out.slice
            have x0 := keep1 HW.out HX0.out
            have hx9 := HXK.out
            have HLP := Lib.hid (show (m ++ (prs x).take j).length ≤ 800 by rw [List.length_append, List.length_take]; have h1 := HPL.out; have h2 := HLN.out; omega)
            obtain ⟨i2, hi2⟩ : ∃ i, 2 * j = i := ⟨_, rfl⟩
            have w2 : wrap64 ((i2 : Int) + 2) = i2 + 2 := IntWalk.wrap64_in _ (by omega)
            have w1 : wrap64 ((i2 : Int) + 1) = i2 + 1 := IntWalk.wrap64_in _ (by omega)
            by_cases hl2 : 2 * j + 1 < x.length
            · have HPT := Lib.hid (prs_take j x hl2)
              obtain ⟨a2, cap2, hva, -, hcs⟩ := HS.out.step HW.out
              obtain ⟨rfl, rfl⟩ : sa = a2 ∧ sc = cap2 := by simpa using hva
              obtain ⟨b2, off2, rfl, hcs2⟩ := hcs (by intro h; rw [h] at hl2; simp at hl2)
              have y0 := hcs2 (2 * j) _ (getD_of (by omega))
              have y1 := hcs2 (2 * j + 1) _ (getD_of hl2)
              clear hcs hcs2 hva
              generalize x.getD (2 * j) 0 = p at *
              generalize x.getD (2 * j + 1) 0 = q at *
              have HK2 := Lib.hid (show ((2 * (j + 1) : Nat) : Int) = (i2 : Int) + 2 ∧ 2 * (j + 1) ≤ x.length ∧ i2 ≤ 200 ∧ i2 < x.length from ⟨by omega, by omega, by omega, by omega⟩)
              rw [hi2] at y0 y1 hl2 ⊢
              clear hi2 hj
              have r1 : decide ((i2 : Int) + 1 < x.length) = true := by simp; omega
              have r2 : (i2 : Int) + 1 < x.length := by omega
              have r3 : (i2 : Int) < x.length := by omega
              have r4 : 0 ≤ (i2 : Int) := by omega
              have r5 : 0 ≤ (i2 : Int) + 1 := by omega
              have r6 : i2 < x.length := by omega
              have r7 : ((i2 : Int) + 1).toNat = i2 + 1 := by omega
              obtain ⟨xs, hown, hxs⟩ := HO.out
              have HOW := Lib.hid hown
              have HXS := Lib.hid hxs
              have HXL := Lib.hid (show xs.length = (m ++ (prs x).take j).length by have := hown.1; omega)
              clear hown hxs HO
              obtain ⟨m2, hm2⟩ : ∃ z, m ++ (prs x).take j = z := ⟨_, rfl⟩
              have HM2 := Lib.hid (show m ++ (prs x).take (j + 1) = m2 ++ [[1, p, q]] by rw [HPT.out, ← List.append_assoc, hm2])
              rw [hm2] at HOW HXS HXL HLP ⊢
              clear hm2
              have k1 : m2.length + 1 ≤ maxLen := by have := HLP.out; unfold maxLen; omega
              have k2 : (m2.length + 1) * 24 ≤ 140737488355328 := by have := HLP.out; omega
              have HWS := Lib.hid HW.out.size
              have q2 : IntKind.i64.wrap ((i2 : Int) + 1) = i2 + 1 := IntWalk.i64_in _ (by omega)
              have hx9b := Lib.hid hx9
              clear hx9 hk9
              replace hl2 := Lib.hid hl2
              go_wp2_with fail
              obtain ⟨wd, hwd⟩ : ∃ z, wr.drew = z := ⟨_, rfl⟩
              have HBD := Lib.hid (show Below wr.heap.size wr wd from hwd ▸ below_drew _ _)
              have HB6 := Lib.hid (show Below wr.heap.size wr ((wr.drew.alloc (.cells #[.int .i64 1, .int .i64 p, .int .i64 q] 3)).alloc (.cells #[.slice (some ⟨wr.heap.size, 0, none⟩) 3 3] 22)) from keep2 al2 (below_drew _ _))
              have HC6 := Lib.hid (show Cs ((wr.drew.alloc (.cells #[.int .i64 1, .int .i64 p, .int .i64 q] 3)).alloc (.cells #[.slice (some ⟨wr.heap.size, 0, none⟩) 3 3] 22)) (wr.heap.size + 1) #[.slice (some ⟨wr.heap.size, 0, none⟩) 3 3] from Cs.new (wr.drew.alloc (.cells #[.int .i64 1, .int .i64 p, .int .i64 q] 3)) (wr.heap.size + 1) _ 22 (by simp))
              have c3 := Lib.hid (Nat.le_trans HWS.out HB6.out.size)
              clear hwd HBD
              go_region_law (refine step_append_lies _ rfl _ _ 25 rfl W1.heap.size 22 j0 (.slice none 0 0) 1 24 Try.underlying25 KI.out.1 KI.out.2.1 KI.out.2.2.1 KI.out.2.2.2 rfl (by decide) _ _ _ rfl (row_step HOW.out HB6.out) ⟨wr.heap.size + 1, 0, none⟩ 1 1 [.slice (some ⟨wr.heap.size, 0, none⟩) 3 3] rfl rfl (one_at HC6.out) (by simp [Value.oneCell']) (by decide) k1 k2 c3.out _ rfl ?_; intro g' cap' w7 hown' hgrow hz9 hz8; clear hz9 hz8; have HL7 := Lib.hid (ListsR.snoc (W := (wr.drew.alloc (.cells #[.int .i64 1, .int .i64 p, .int .i64 q] 3)).alloc (.cells #[.slice (some ⟨wr.heap.size, 0, none⟩) 3 3] 22)) (Ls := m2) (l := [1, p, q]) (u := .slice (some ⟨wr.heap.size, 0, none⟩) 3 3) (fun i y h => by obtain ⟨u, e1, e2, e3⟩ := HXS.out i y h; exact ⟨u, e1, e2, row_step e3 HB6.out⟩) HXL.out (row_step HOW.out HB6.out) (row_step (row_lit (W := wr.drew) [1, p, q] #[.int .i64 1, .int .i64 p, .int .i64 q] rfl (by simp) HWS.out 3 rfl) (al _ _)) rfl hgrow hown'); have HB7 := Lib.hid ((HW.out.trans (HB6.out.mono HWS.out)).grown hgrow c3.out (fun k e => row_own (row_step HOW.out HB6.out) e)); clear hown' hgrow)
              all_goals clear x0 y0 y1 k1 k2 q2 r1 r2 r3 r4 r5 r6 r7 w1
              all_goals go_wp2
              all_goals go_roundw
              all_goals first | exact ⟨j + 1, HK2.out.2.1, by rw [w2, HK2.out.1], Lib.hid (by rw [HM2.out]; exact HL7.out), HB7⟩ | (have h3 := HK2.out.2.2.2; have h4 := HK2.out.1; rw [w2]; simp [intOf]; omega)
            · have HEND := Lib.hid (show m ++ (prs x).take j = m ++ prs x by rw [List.take_of_length_le (by rw [HPL.out]; omega)])
              have HO3 := Lib.hid (show ListsR W1.heap.size (m ++ prs x) (.slice pa (m ++ (prs x).take j).length pc) wr from by have h := HO.out; rw [HEND.out] at h ⊢; exact h)
              rw [hi2]
              have r1 : decide ((i2 : Int) + 1 < x.length) = false := by simp; omega
              have r2 : ((i2 : Int) + 1 < x.length) = False := by simp; omega
              clear hi2 hj hl2 HEND HO hx9
              go_wp2
              go_roundw
              case rel => exact ⟨k + 1, HK1.out, by first | rw [hkw, HK8.out] | rw [HK8.out], Lib.hid (by rw [HM.out]; exact HO3.out), HW⟩
              case measure => have := HK1.out; have h3 := HK8.out; first | rw [hkw] | skip; simp [intOf]; omega
        · have hke : k = Rs.length - 1 := by omega
          have t1 : decide ((k : Int) + 1 < Rs.length) = false := by simp; omega
          have t2 : ((k : Int) + 1 < Rs.length) = False := by simp; omega
          have HF := Lib.hid (show ListsR w.heap.size (trL L) (.slice oa2 (bl ++ allP (Rs.take k)).length oc2) wr ∧ Below w.heap.size w wr from ⟨by
            rw [HT0.out, HAL.out, ← hke]
            exact HO.out.base HB.out.size, HB.out.trans (HW.out.mono HB.out.size)⟩)
          clear hke hk hlt HO HW
          go_wp2
          go_ret
          exact ⟨_, rfl, HF.out.1, HF.out.2⟩
open Go.RowKit

/-- One list of lists behind another, by an append. -/
theorem lists_app (W : World) (n0 : Nat) (A B : List (List Int)) (v u : Value) (ty : TypeId) (hA : ListsR n0 A v W) (hB : ListsR n0 B u W) (h0 : 0 < B.length) (h9 : A.length + B.length ≤ 1000) (hb : n0 ≤ W.heap.size) :
    ∃ v' w', (Builtin.append_ #[25, 25] ty #[v, u]).run Try.prog W = .ok v' w' ∧ ListsR n0 (A ++ B) v' w' ∧ Below n0 W w' := by
  obtain ⟨j0, ki, kz0, kz1, kz2⟩ := info_parts infoSl
  obtain ⟨xs, hx1, hx2⟩ := hA
  obtain ⟨ys, hy1, hy2⟩ := hB
  have hyl : ys.length = B.length := by have := hy1.1; omega
  have hxl : xs.length = A.length := by have := hx1.1; omega
  rcases hy1.2 with ⟨-, e⟩ | ⟨g, cap, cur, rfl, -, -⟩
  · omega
  have hcell : ∀ j z, ys[j]? = some z → W.cell? ((⟨g, 0, none⟩ : Addr).add j) = some z := fun j z hz => hy1.cells (g := g) rfl j z hz
  have hone : ∀ z ∈ ys, z.oneCell' = true := fun z hz => by
    obtain ⟨j, hj, rfl⟩ := List.getElem_of_mem hz
    obtain ⟨y, e1, e2, -⟩ := hy2 j (B[j]'(by omega)) (by simp [show j < B.length by omega])
    rw [List.getElem?_eq_getElem hj] at e1
    cases e1
    exact e2
  obtain ⟨v', w', h1, h2, h3, -, -⟩ := run_append_own_at (P := Try.prog) W n0 25 ty 22 j0 (.slice none 0 0) 1 24 Try.underlying25 ki kz0 kz1 kz2 rfl (by decide) v A.length xs hx1 ⟨g, 0, none⟩ B.length cap ys (by omega) hcell hone (by unfold maxLen; omega) (by omega) hb
  have ap : ∀ {y : Value} {x : List Int}, W.ownsRow n0 3 1 y x.length (x.map (Value.int .i64)) → w'.ownsRow n0 3 1 y x.length (x.map (Value.int .i64)) := fun hy => row_grown hy h3 (fun k e => row_type hy hx1 (by decide) e)
  refine ⟨v', w', h1, ⟨xs ++ ys, by rw [List.length_append]; exact h2, fun i x hi => ?_⟩, (Below.refl _ W).grown h3 hb (fun k e => row_own hx1 e)⟩
  by_cases hlt : i < A.length
  · rw [List.getElem?_append_left hlt] at hi
    obtain ⟨y, e1, e2, e3⟩ := hx2 i x hi
    exact ⟨y, by rw [List.getElem?_append_left (by omega)]; exact e1, e2, ap e3⟩
  · rw [List.getElem?_append_right (by omega)] at hi
    obtain ⟨y, e1, e2, e3⟩ := hy2 (i - A.length) x hi
    exact ⟨y, by rw [List.getElem?_append_right (by omega), hxl]; exact e1, e2, ap e3⟩
theorem lists_empty (W : World) {n0 : Nat} (hn : n0 ≤ W.heap.size) : ListsR n0 [] (.slice (some ⟨W.heap.size, 0, none⟩) 0 0) (W.alloc (.cells #[] 22)) :=
  ⟨[], ⟨rfl, .inr ⟨W.heap.size, 0, _, rfl, hn, heap_alloc_new _ _, Nat.le_refl 0, by unfold maxLen; omega, rfl, rfl⟩⟩, fun i x hi => by simp at hi⟩
theorem wpList_app_g {ops : Array Oper} {rest : List Oper} {o : Oper} {a : Act} {w w' : World} {Q : Exit → Act → World → Prop} (s x : Operand) (t : TypeId)
    (ho : o.op = .call { callee := .builtin .append, args := #[s, x], argTypes := #[t, t] }) (hw : Region.wanted o (yielded ops a.tmps) = true) (v sl v' : Value) (hs : a.eval s = v) (hx : a.eval x = sl)
    (hr : (Builtin.append_ #[t, t] o.type #[v, sl]).run Try.prog w = .ok v' w') (h : wpList Try.prog ops Q rest (a.put o.dst v') w') : wpList Try.prog ops Q (o :: rest) a w := by
  refine wpList_step fun K hK => ?_
  rw [if_pos hw]
  unfold Oper.wp execOp
  simp only [ho, resolve, invoke, builtin, Sem.run_bind, Sem.run_pure, Result.andThen_ok, List.map_toArray, List.map_cons, List.map_nil, hs, hx, hr]
  exact hK _ _ h
theorem clL_bd {l : List Int} {i : Int} {p : List Int} (h : clB i p = false) : 2 ≤ (clL l i p).length ∧ (clL l i p).length ≤ 22 := by
  unfold clL
  rw [h, if_neg (by decide)]
  have h1 := stK_L l i p p.length
  have h2 := stK_L2 l i p p.length
  unfold clB at h
  rw [Bool.or_eq_false_iff, Bool.or_eq_false_iff, decide_eq_false_iff_not, decide_eq_false_iff_not] at h
  omega
end Go.Proofs.Yteodafhgfcbdpaa
