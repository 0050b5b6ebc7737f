import Derived.Test.YtnanndmpbecdiaaLi
namespace Go.Proofs.Ytnanndmpbecdiaa
open Go.RowKit

theorem bo_cells {w : World} {a : Option Addr} {cap : Nat} {l : List Bool} (h : BosAt w (.slice a l.length cap) l) (ad : Addr) (ha : a = some ad) : ∀ j u, (l.map (Value.bool))[j]? = some u → w.cell? (ad.add j) = some u := by
  intro j u hu
  obtain ⟨a', cap', he, -, hc⟩ := h
  obtain ⟨rfl, rfl⟩ : a = a' ∧ cap = cap' := by simpa using he
  rw [List.getElem?_map] at hu
  cases hj : l[j]? with
  | none => rw [hj] at hu; cases hu
  | some x =>
    rw [hj] at hu
    obtain ⟨b', off', ha', hx⟩ := hc (by intro e; rw [e] at hj; cases hj)
    rw [ha] at ha'
    obtain rfl : ad = ⟨b', off', none⟩ := by simpa using ha'
    rw [Go.WideShapes.add_plain, hx j x hj]
    exact hu
theorem bo_one (l : List Bool) : ∀ u ∈ l.map (Value.bool), u.oneCell' = true := by
  intro u hu
  rw [List.mem_map] at hu
  obtain ⟨x, -, rfl⟩ := hu
  rfl
theorem bo_info : (Try.prog.info? 4).map (fun i => (i.zero, i.size, i.bytes)) = some (some (.bool false), 1, 1) := by kernel_rfl
set_option maxRecDepth 100000 in
set_option maxHeartbeats 2000000 in
theorem bo_clone (v : Value) (l : List Bool) (w : World) (h : BosAt w v l) (h9 : l.length ≤ 100000) :
    Calls Try.prog 31 #[v] w fun e w' => ∃ u, e = .returned u ∧ w'.ownsRow w.heap.size 4 1 u l.length (l.map (Value.bool)) ∧ Below w.heap.size w w' := by
  have H := Lib.hid h
  obtain ⟨a, cap, rfl, hm, hc⟩ := h
  obtain ⟨i0, hi, hz0, hz1, hz2⟩ := info_parts bo_info
  have q22 : ∀ (w : World) (a : Option Addr) (n c n' c' : Nat), (binOp .eql 26 (.slice a n c) (.slice none n' c')).run Try.prog w = .ok (.bool a.isNone) w := fun w a n c n' c' => Lib.run_eql_slice_nil w _ _ a n c n' c' Try.underlying26
  cases a with
  | none =>
    have hl : l = [] := by
      cases l with
      | nil => rfl
      | cons x l => obtain ⟨b, off, e, -⟩ := hc (by simp); cases e
    subst hl
    clear H hc hm h9
    go_enter Try.func31, Try.ntmps31
    go_wp2
    go_ret
    exact ⟨_, rfl, World.ownsRow_nil _ _ _ _, Below.refl _ _⟩
  | some ad =>
    have HN := Lib.hid (bo_cells (H.out.step (al w (.cells #[] 4))) ad rfl)
    have c1 : 0 + l.length ≤ maxLen := by unfold maxLen; omega
    have c2 : (0 + l.length) * 1 ≤ 140737488355328 := by omega
    have HR := Lib.hid (show (w.alloc (.cells #[] 4)).ownsRow w.heap.size 4 1 (.slice (some ⟨w.heap.size, 0, none⟩) 0 0) 0 [] from
      ⟨rfl, .inr ⟨w.heap.size, 0, _, rfl, Nat.le_refl _, heap_alloc_new _ _, by omega, by unfold maxLen; omega, rfl, rfl⟩⟩)
    clear hc hm
    go_enter Try.func31, Try.ntmps31
    go_wp2_with (at_builtin; refine wpList_append_own _ rfl _ _ 26 rfl w.heap.size 4 i0 _ 1 1 Try.underlying26 hi hz0 hz1 hz2 rfl (by decide) _ _ _ rfl HR.out ad l.length cap (l.map (Value.bool)) rfl (by simp) HN.out (bo_one l) c1 c2 (by simp) ?_; intro v' w1 hown hgrow _; have HO := Lib.hid hown; have HG := Lib.hid hgrow; clear hown hgrow)
    have HB := Lib.hid ((al w (.cells #[] 4)).grown HG.out (by simp) (fun k e => by cases e; exact Nat.le_refl _))
    have HO2 := Lib.hid (show w1.ownsRow w.heap.size 4 1 v' l.length (l.map (Value.bool)) by have := HO.out; rw [Nat.zero_add] at this; exact this)
    clear HO
    go_wp2
    go_ret
    exact ⟨_, rfl, HO2.out, HB.out⟩
theorem in_cells {w : World} {a : Option Addr} {cap : Nat} {l : List Int} (h : IntsAt w (.slice a l.length cap) l) (ad : Addr) (ha : a = some ad) : ∀ j u, (l.map (Value.int .i64))[j]? = some u → w.cell? (ad.add j) = some u := by
  intro j u hu
  obtain ⟨a', cap', he, -, hc⟩ := h
  obtain ⟨rfl, rfl⟩ : a = a' ∧ cap = cap' := by simpa using he
  rw [List.getElem?_map] at hu
  cases hj : l[j]? with
  | none => rw [hj] at hu; cases hu
  | some x =>
    rw [hj] at hu
    obtain ⟨b', off', ha', hx⟩ := hc (by intro e; rw [e] at hj; cases hj)
    rw [ha] at ha'
    obtain rfl : ad = ⟨b', off', none⟩ := by simpa using ha'
    rw [Go.WideShapes.add_plain, hx j x hj]
    exact hu
theorem in_one (l : List Int) : ∀ u ∈ l.map (Value.int .i64), u.oneCell' = true := by
  intro u hu
  rw [List.mem_map] at hu
  obtain ⟨x, -, rfl⟩ := hu
  rfl
theorem in_info : (Try.prog.info? 3).map (fun i => (i.zero, i.size, i.bytes)) = some (some (.int .i64 0), 1, 8) := by kernel_rfl
set_option maxRecDepth 100000 in
set_option maxHeartbeats 2000000 in
theorem in_clone (v : Value) (l : List Int) (w : World) (h : IntsAt w v l) (h9 : l.length ≤ 100000) :
    Calls Try.prog 12 #[v] w fun e w' => ∃ u, e = .returned u ∧ w'.ownsRow w.heap.size 3 1 u l.length (l.map (Value.int .i64)) ∧ Below w.heap.size w w' := by
  have H := Lib.hid h
  obtain ⟨a, cap, rfl, hm, hc⟩ := h
  obtain ⟨i0, hi, hz0, hz1, hz2⟩ := info_parts in_info
  have q22 : ∀ (w : World) (a : Option Addr) (n c n' c' : Nat), (binOp .eql 29 (.slice a n c) (.slice none n' c')).run Try.prog w = .ok (.bool a.isNone) w := fun w a n c n' c' => Lib.run_eql_slice_nil w _ _ a n c n' c' Try.underlying29
  cases a with
  | none =>
    have hl : l = [] := by
      cases l with
      | nil => rfl
      | cons x l => obtain ⟨b, off, e, -⟩ := hc (by simp); cases e
    subst hl
    clear H hc hm h9
    go_enter Try.func12, Try.ntmps12
    go_wp2
    go_ret
    exact ⟨_, rfl, World.ownsRow_nil _ _ _ _, Below.refl _ _⟩
  | some ad =>
    have HN := Lib.hid (in_cells (H.out.step (al w (.cells #[] 3))) ad rfl)
    have c1 : 0 + l.length ≤ maxLen := by unfold maxLen; omega
    have c2 : (0 + l.length) * 8 ≤ 140737488355328 := by omega
    have HR := Lib.hid (show (w.alloc (.cells #[] 3)).ownsRow w.heap.size 3 1 (.slice (some ⟨w.heap.size, 0, none⟩) 0 0) 0 [] from
      ⟨rfl, .inr ⟨w.heap.size, 0, _, rfl, Nat.le_refl _, heap_alloc_new _ _, by omega, by unfold maxLen; omega, rfl, rfl⟩⟩)
    clear hc hm
    go_enter Try.func12, Try.ntmps12
    go_wp2_with (at_builtin; refine wpList_append_own _ rfl _ _ 29 rfl w.heap.size 3 i0 _ 1 8 Try.underlying29 hi hz0 hz1 hz2 rfl (by decide) _ _ _ rfl HR.out ad l.length cap (l.map (Value.int .i64)) rfl (by simp) HN.out (in_one l) c1 c2 (by simp) ?_; intro v' w1 hown hgrow _; have HO := Lib.hid hown; have HG := Lib.hid hgrow; clear hown hgrow)
    have HB := Lib.hid ((al w (.cells #[] 3)).grown HG.out (by simp) (fun k e => by cases e; exact Nat.le_refl _))
    have HO2 := Lib.hid (show w1.ownsRow w.heap.size 3 1 v' l.length (l.map (Value.int .i64)) by have := HO.out; rw [Nat.zero_add] at this; exact this)
    clear HO
    go_wp2
    go_ret
    exact ⟨_, rfl, HO2.out, HB.out⟩
theorem row_step {w w1 : World} {base e s : Nat} {v : Value} {n : Nat} {xs : List Value} (h : w.ownsRow base e s v n xs) (hb : Below w.heap.size w w1) : w1.ownsRow base e s v n xs := by
  refine ⟨h.1, ?_⟩
  rcases h.2 with h0 | ⟨g, cap, cur, h1, h2, h3, h4⟩
  · exact .inl h0
  · exact .inr ⟨g, cap, cur, h1, h2, (hb.block g (Array.getElem?_eq_some_iff.1 h3).1).trans h3, h4⟩
theorem row_slice {w : World} {base e s : Nat} {v : Value} {n : Nat} {xs : List Value} (h : w.ownsRow base e s v n xs) : ∃ a c, v = .slice a n c := by
  rcases h.2 with ⟨rfl, rfl⟩ | ⟨g, cap, cur, rfl, -⟩
  · exact ⟨none, 0, rfl⟩
  · exact ⟨_, _, rfl⟩
theorem bos_of_row {w : World} {base : Nat} {t : TypeId} {v : Value} {xs : List Bool} (h : w.ownsRow base t 1 v xs.length (xs.map Value.bool)) : BosAt w v xs := by
  rcases h.2 with ⟨rfl, hn⟩ | ⟨g, cap, cur, rfl, hbg, hg, hnc, hcm, hcur, htake⟩
  · have : xs = [] := by simpa using hn
    subst this
    exact bos_nil _
  · have hc := h.cells (g := g) rfl
    refine ⟨_, cap, rfl, by omega, fun _ => ⟨g, 0, rfl, fun i x hi => ?_⟩⟩
    have := hc i (.bool x) (by rw [List.getElem?_map, hi]; rfl)
    rwa [Go.WideShapes.add_plain] at this
theorem fresh1_any (w : World) : Calls Try.prog 11 #[] w fun e w' => ∃ s, e = .returned (.agg #[.int .i64 (-1), s]) ∧ w'.ownsRow w.heap.size 4 1 s 16 ((List.replicate 16 false).map Value.bool) ∧ Below w.heap.size w w' := by
  have hmk : ∀ w, (Instr.makeSlice 26 (.int .i64 16) (.int .i64 16)).run Try.prog w = .ok (.slice (some ⟨w.heap.size, 0, none⟩) 16 16) (w.alloc (.cells ((List.replicate 16 false).map Value.bool).toArray 4)) := fun _ => by kernel_rfl
  have HR := Lib.hid (show ((w.alloc (.cells #[.int .i64 (-1), .slice (some ⟨w.heap.size + 1, 0, none⟩) 16 16] 28)).alloc (.cells #[.bool false, .bool false, .bool false, .bool false, .bool false, .bool false, .bool false, .bool false, .bool false, .bool false, .bool false, .bool false, .bool false, .bool false, .bool false, .bool false] 4)).ownsRow w.heap.size 4 1 (.slice (some ⟨w.heap.size + 1, 0, none⟩) 16 16) 16 ((List.replicate 16 false).map Value.bool) from
    ⟨rfl, .inr ⟨w.heap.size + 1, 16, _, rfl, Nat.le_succ _, (by have h := heap_alloc_new (w.alloc (.cells #[.int .i64 (-1), .slice (some ⟨w.heap.size + 1, 0, none⟩) 16 16] 28)) (.cells #[.bool false, .bool false, .bool false, .bool false, .bool false, .bool false, .bool false, .bool false, .bool false, .bool false, .bool false, .bool false, .bool false, .bool false, .bool false, .bool false] 4); simpa using h), by omega, by unfold maxLen; omega, rfl, rfl⟩⟩)
  have HB := Lib.hid (al2 (w := w) (o1 := (.cells #[.int .i64 (-1), .slice (some ⟨w.heap.size + 1, 0, none⟩) 16 16] 28)) (o2 := (.cells #[.bool false, .bool false, .bool false, .bool false, .bool false, .bool false, .bool false, .bool false, .bool false, .bool false, .bool false, .bool false, .bool false, .bool false, .bool false, .bool false] 4)))
  go_enter Try.func11, Try.ntmps11
  go_wp2
  exact bodyPost_ret (v := .agg #[.int .i64 (-1), .slice (some ⟨w.heap.size + 1, 0, none⟩) 16 16]) (by simp [results, Try.results11, go_sem]) rfl ⟨_, rfl, HR.out, HB.out⟩
open Go.RowKit

def ba (x : Int) : Bool := !inr x 0 15
theorem within2_any (n m : Int) (w : World) : Calls Try.prog 37 #[.int .i64 n, .int .i64 m] w fun e w' => e = .returned (.bool (inr n 0 m)) ∧ w = w' := by
  unfold inr
  cases h : decide (0 ≤ n)
  · go_enter Try.func37, Try.ntmps37
    go_wp2
    go_ret
    exact ⟨rfl, rfl⟩
  · go_enter Try.func37, Try.ntmps37
    go_wp2
    go_ret
    exact ⟨rfl, rfl⟩
theorem isValue_any (n : Int) (w : World) : Calls Try.prog 27 #[.int .i64 n] w fun e w' => e = .returned (.bool (inr n 0 15)) ∧ w = w' := by
  go_enter Try.func27, Try.ntmps27
  go_wp2_with fail
  refine (within2_any n 15 _).mono ?_
  rintro e w' ⟨rfl, rfl⟩
  go_wp2
  go_ret
  exact ⟨rfl, rfl⟩
theorem bad1_any (n : Int) (w : World) : Calls Try.prog 26 #[.int .i64 n] w fun e w' => e = .returned (.bool (ba n)) ∧ w = w' := by
  go_enter Try.func26, Try.ntmps26
  go_wp2_with fail
  refine (isValue_any n _).mono ?_
  rintro e w' ⟨rfl, rfl⟩
  go_wp2
  go_ret
  exact ⟨rfl, rfl⟩
theorem ba_hit {l : List Int} {k : Nat} (h : k < l.length) (hb : ba (l.getD k 0) = true) : l.any ba = true := by
  rw [List.any_eq_true]
  exact ⟨l.getD k 0, List.mem_of_getElem? (getD_of h), hb⟩
theorem ba_none {l : List Int} (h : ∀ j, j < l.length → ba (l.getD j 0) = false) : l.any ba = false := by
  rw [List.any_eq_false]
  intro x hx
  obtain ⟨j, hj⟩ := List.getElem?_of_mem hx
  have h1 : j < l.length := (List.getElem?_eq_some_iff.1 hj).1
  have h2 := h j h1
  have h3 := getD_of h1
  rw [h3] at hj
  rw [← Option.some.inj hj, h2]
  exact Bool.false_ne_true
def vaB (l : List Int) : Bool := decide (l.length ≤ 1200) && !l.any ba
set_option maxRecDepth 100000 in
set_option maxHeartbeats 2000000 in
theorem find_any (v : Value) (l : List Int) (w : World) (h : IntsAt w v l) :
    Calls Try.prog 25 #[v, .func (.func 26) #[] #[]] w fun e w' => (∃ k : Int, e = .returned (.tuple #[.int .i64 k, .bool (l.any ba)])) ∧ Below w.heap.size w w' := by
  have HL := Lib.hid h
  obtain ⟨a, cap, rfl, hm, hc⟩ := h
  unfold maxLen at hm
  clear hc
  have heg : ∀ args w, (callFunc 26 args).run Try.prog w = .ok (.enter 26 args) w := fun _ _ => by kernel_rfl
  go_enter Try.func25, Try.ntmps25
  go_wp2_with fail
  go_loopw [10] (fun i wr => ∃ k : Nat, k ≤ l.length ∧ i = .int .i64 k ∧ Hid (∀ j, j < k → ba (l.getD j 0) = false) ∧ Hid (Below w.heap.size w wr)) (fun i _ => l.length - (intOf i).toNat)
  case atStart => exact ⟨0, by omega, rfl, fun j h => absurd h (by omega), Below.refl _ _⟩
  case round =>
    obtain ⟨k, hk, rfl, HN, HB⟩ := hrel
    by_cases hlt : k < l.length
    · obtain ⟨a2, cap2, hva, -, hcs⟩ := HL.out.step HB.out
      obtain ⟨rfl, rfl⟩ : a = a2 ∧ cap = cap2 := by simpa using hva
      obtain ⟨b, off, rfl, hcs2⟩ := hcs (by intro h; rw [h] at hlt; simp at hlt)
      have x0 := hcs2 k _ (getD_of hlt)
      clear hcs hcs2 hva
      cases hf : ba (l.getD k 0)
      · have HF := Lib.hid hf
        have HN2 := Lib.hid (show ∀ j, j < k + 1 → ba (l.getD j 0) = false from fun j h => by
          by_cases e : j = k
          · subst e; exact hf
          · exact HN.out j (by omega))
        clear hf HN
        generalize l.getD k 0 = x at *
        go_wp2_with (go_at_call 26; go_must (refine (bad1_any x _).mono ?_); rintro e w' ⟨rfl, rfl⟩; rw [HF.out])
        go_roundw
        case rel => exact ⟨k + 1, by omega, by go_num, HN2, HB⟩
        case measure => simp [intOf]; omega
      · have HF := Lib.hid hf
        have HA := Lib.hid (ba_hit hlt hf)
        clear hf HN
        generalize l.getD k 0 = x at *
        go_wp2_with (go_at_call 26; go_must (refine (bad1_any x _).mono ?_); rintro e w' ⟨rfl, rfl⟩; rw [HF.out])
        exact bodyPost_ret (v := .tuple #[.int .i64 k, .bool true]) (by simp [results, Try.results25, go_sem]) rfl ⟨⟨k, by rw [HA.out]⟩, HB.out⟩
    · have HF := Lib.hid (ba_none fun j hj => HN.out j (by omega))
      go_wp2
      exact bodyPost_ret (v := .tuple #[.int .i64 0, .bool false]) (by simp [results, Try.results25, go_sem]) rfl ⟨⟨0, by rw [HF.out]⟩, HB.out⟩
set_option maxRecDepth 100000 in
set_option maxHeartbeats 2000000 in
theorem areValues_any (v : Value) (l : List Int) (w : World) (h : IntsAt w v l) :
    Calls Try.prog 10 #[v] w fun e w' => e = .returned (.bool (vaB l)) ∧ Below w.heap.size w w' := by
  have HL := Lib.hid h
  obtain ⟨a, cap, rfl, hm, hc⟩ := h
  unfold maxLen at hm
  clear hc
  go_enter Try.func10, Try.ntmps10
  go_wp2_with fail
  refine (find_any (.slice a l.length cap) l _ HL.out).mono ?_
  rintro e w' ⟨⟨k, rfl⟩, b1⟩
  have HB := Lib.hid b1
  clear b1
  have HV := Lib.hid (show vaB l = (decide ((l.length : Int) ≤ 1200) && !l.any ba) from by unfold vaB; congr 1; simp only [decide_eq_decide]; omega)
  generalize l.any ba = bb at *
  cases hq : decide ((l.length : Int) ≤ 1200)
  · rw [hq] at HV
    go_wp2
    go_ret
    exact ⟨ret_bool HV.out.symm, HB.out⟩
  · rw [hq] at HV
    go_wp2
    go_ret
    exact ⟨ret_bool HV.out.symm, HB.out⟩
set_option maxRecDepth 100000 in
set_option maxHeartbeats 2000000 in
theorem isOrder_any (a b c d : Int) (w : World) : Calls Try.prog 32 #[.agg #[.int .i64 a, .int .i64 b, .int .i64 c, .int .i64 d]] w fun e w' => e = .returned (.bool (inr a 0 1000000 && (inr b 0 1000000000 && (inr c 0 1199 && inr d 0 15)))) ∧ Below w.heap.size w w' := by
  have HC := Lib.hid (Cs.new w w.heap.size #[.int .i64 a, .int .i64 b, .int .i64 c, .int .i64 d] 42 rfl)
  have HB := Lib.hid (al w (.cells #[.int .i64 a, .int .i64 b, .int .i64 c, .int .i64 d] 42))
  go_enter Try.func32, Try.ntmps32
  go_wp2_with fail
  refine (within2_any a 1000000 _).mono ?_
  rintro e w' ⟨rfl, rfl⟩
  cases h1 : inr a 0 1000000
  · go_wp2
    go_ret
    exact ⟨ret_bool (by simp [h1]), HB.out⟩
  go_wp2_with fail
  refine (within2_any b 1000000000 _).mono ?_
  rintro e w' ⟨rfl, rfl⟩
  cases h2 : inr b 0 1000000000
  · go_wp2
    go_ret
    exact ⟨ret_bool (by simp [h1, h2]), HB.out⟩
  go_wp2_with fail
  refine (within2_any c 1199 _).mono ?_
  rintro e w' ⟨rfl, rfl⟩
  cases h3 : inr c 0 1199
  · go_wp2
    go_ret
    exact ⟨ret_bool (by simp [h1, h2, h3]), HB.out⟩
  go_wp2_with fail
  refine (isValue_any d _).mono ?_
  rintro e w' ⟨rfl, rfl⟩
  go_wp2
  go_ret
  exact ⟨ret_bool (by simp [h1, h2, h3]), HB.out⟩
open Go.RowKit

/-- A receiver of one's own. -/
def RcS (w : World) (t f dn : Int) (L : List Bool) (l : List Int) (e : Ending) (w' : World) : Prop :=
  ∃ (n uc vc : Nat) (ua va : Option Addr), e = .returned (.pointer (some ⟨n, 0, none⟩)) ∧ w.heap.size ≤ n ∧ Cs w' n #[.int .i64 t, .slice ua L.length uc, .int .i64 f, .slice va l.length vc, .int .i64 dn] ∧ (∀ g, ua = some ⟨g, 0, none⟩ → g ≠ n) ∧ (∀ g, va = some ⟨g, 0, none⟩ → g ≠ n) ∧ (∀ g, va = some ⟨g, 0, none⟩ → ua ≠ some ⟨g, 0, none⟩) ∧
    w'.ownsRow w.heap.size 4 1 (.slice ua L.length uc) L.length (L.map Value.bool) ∧ w'.ownsRow w.heap.size 3 1 (.slice va l.length vc) l.length (l.map (Value.int .i64)) ∧ Below w.heap.size w w'
theorem row_base {w : World} {base b2 e s : Nat} {v : Value} {n : Nat} {xs : List Value} (h : w.ownsRow base e s v n xs) (hb : b2 ≤ base) : w.ownsRow b2 e s v n xs := by
  refine ⟨h.1, ?_⟩
  rcases h.2 with h0 | ⟨g, cap, cur, h1, h2, h3, h4⟩
  · exact .inl h0
  · exact .inr ⟨g, cap, cur, h1, Nat.le_trans hb h2, h3, h4⟩
theorem row_lt {w : World} {base e s n c m g : Nat} {a : Option Addr} {xs : List Value} (h : w.ownsRow base e s (.slice a n c) m xs) (ha : a = some ⟨g, 0, none⟩) : base ≤ g ∧ g < w.heap.size := by
  subst ha
  rcases h.2 with ⟨e, -⟩ | ⟨g', cp, cur, e, h1, h2, -⟩
  · cases e
  · obtain ⟨rfl, -, -⟩ : g = g' ∧ n = m ∧ c = cp := by simpa using e
    exact ⟨h1, (Array.getElem?_eq_some_iff.1 h2).1⟩
theorem RcS.mk {w w1 w2 : World} {t f dn : Int} {L : List Bool} {l : List Int} {b1 b2 uc vc : Nat} {ua va : Option Addr} (hb : Below w.heap.size w w2) (hu : w2.ownsRow b1 4 1 (.slice ua L.length uc) L.length (L.map Value.bool)) (h1 : w.heap.size ≤ b1) (hv : w2.ownsRow b2 3 1 (.slice va l.length vc) l.length (l.map (Value.int .i64))) (h2 : w.heap.size ≤ b2) (hx : w1.ownsRow b1 4 1 (.slice ua L.length uc) L.length (L.map Value.bool)) (h3 : w1.heap.size ≤ b2) (n : Nat) (hn : n = w2.heap.size) :
    RcS w t f dn L l (.returned (.pointer (some ⟨n, 0, none⟩))) (w2.alloc (.cells #[.int .i64 t, .slice ua L.length uc, .int .i64 f, .slice va l.length vc, .int .i64 dn] 74)) :=
  by
  subst hn
  exact ⟨_, uc, vc, ua, va, rfl, hb.size, Cs.new w2 _ _ 74 rfl, fun g hg => (by have := (row_lt hu hg).2; omega), fun g hg => (by have := (row_lt hv hg).2; omega), fun g hg e => (by have := (row_lt hv hg).1; have := (row_lt hx e).2; omega), row_step (row_base hu h1) (al _ _), row_step (row_base hv h2) (al _ _), hb.alloc hb.size _⟩
set_option maxRecDepth 100000 in
set_option maxHeartbeats 4000000 in
theorem copied_any (t f dn : Int) (s v : Value) (L : List Bool) (l : List Int) (w : World) (hs : BosAt w s L) (hv : IntsAt w v l) (hl : L.length ≤ 100000) (h9 : l.length ≤ 100000) :
    Calls Try.prog 21 #[.agg #[.int .i64 t, s, .int .i64 f, v, .int .i64 dn]] w (RcS w t f dn L l) := by
  have HC0 := Lib.hid (Cs.new w w.heap.size #[.int .i64 t, s, .int .i64 f, v, .int .i64 dn] 31 rfl)
  have HB0 := Lib.hid (al w (.cells #[.int .i64 t, s, .int .i64 f, v, .int .i64 dn] 31))
  have HS0 := Lib.hid (hs.step HB0.out)
  have HV0 := Lib.hid hv
  have HL := Lib.hid hl
  have H9 := Lib.hid h9
  clear hs hv hl h9
  go_enter Try.func21, Try.ntmps21
  go_wp2_with fail
  refine (bo_clone s L _ HS0.out HL.out).mono ?_
  rintro e w1 ⟨u, rfl, hu, b1⟩
  obtain ⟨ua, uc, rfl⟩ := row_slice hu
  have HU1 := Lib.hid (show w1.ownsRow (w.heap.size + 1) 4 1 (.slice ua L.length uc) L.length (L.map Value.bool) from by simpa using hu)
  clear hu
  have HC1 := Lib.hid (HC0.out.step b1)
  have HB1 := Lib.hid (keep2 b1 HB0.out)
  clear b1 HC0 HB0 HS0
  have c0 : w1.cell? ⟨w.heap.size, 0, none⟩ = some (.int .i64 t) := HC1.out.c 0 rfl
  have c1 : w1.cell? ⟨w.heap.size, 1, none⟩ = some s := HC1.out.c 1 rfl
  have c2 : w1.cell? ⟨w.heap.size, 2, none⟩ = some (.int .i64 f) := HC1.out.c 2 rfl
  have c3 : w1.cell? ⟨w.heap.size, 3, none⟩ = some v := HC1.out.c 3 rfl
  have c4 : w1.cell? ⟨w.heap.size, 4, none⟩ = some (.int .i64 dn) := HC1.out.c 4 rfl
  have f1 := HC1.out.f 1 (by simp)
  have f3 := HC1.out.f 3 (by simp)
  have HC2 := Lib.hid (Cs.set HC1.out 1 (by simp) (.slice ua L.length uc) (vs' := #[.int .i64 t, .slice ua L.length uc, .int .i64 f, v, .int .i64 dn]) rfl)
  have HU2 := Lib.hid (ownsRow_setCell_below HU1.out (a := ⟨w.heap.size, 1, none⟩) (Nat.lt_succ_self _) (.slice ua L.length uc))
  have HB2 := Lib.hid (HB1.out.setCell (p := ⟨w.heap.size, 1, none⟩) (Nat.le_refl _) (.slice ua L.length uc))
  have HV2 := Lib.hid (HV0.out.step HB2.out)
  have HZ2 := Lib.hid (show w.heap.size < (w1.setCell ⟨w.heap.size, 1, none⟩ (.slice ua L.length uc)).heap.size from HC2.out.2.2)
  clear HC1 HB1 HU1
  go_wp2_with fail
  refine (in_clone v l _ HV2.out H9.out).mono ?_
  rintro e w3 ⟨y, rfl, hy, b3⟩
  obtain ⟨va, vc, rfl⟩ := row_slice hy
  have HY3 := Lib.hid hy
  have HC3 := Lib.hid (HC2.out.step b3)
  have HB3 := Lib.hid (keep2 b3 HB2.out)
  have HU3 := Lib.hid (row_step HU2.out b3)
  clear hy b3 c0 c1 c2 c3 c4 f1 f3
  have c3 : w3.cell? ⟨w.heap.size, 3, none⟩ = some v := HC3.out.c 3 rfl
  have f3 := HC3.out.f 3 (by simp)
  have HC4 := Lib.hid (Cs.set HC3.out 3 (by simp) (.slice va l.length vc) (vs' := #[.int .i64 t, .slice ua L.length uc, .int .i64 f, .slice va l.length vc, .int .i64 dn]) rfl)
  have HU4 := Lib.hid (ownsRow_setCell_below HU3.out (a := ⟨w.heap.size, 3, none⟩) (Nat.lt_succ_self _) (.slice va l.length vc))
  have HY4 := Lib.hid (ownsRow_setCell_below HY3.out (a := ⟨w.heap.size, 3, none⟩) HZ2.out (.slice va l.length vc))
  have HB4 := Lib.hid (HB3.out.setCell (p := ⟨w.heap.size, 3, none⟩) (Nat.le_refl _) (.slice va l.length vc))
  have k0 : (w3.setCell ⟨w.heap.size, 3, none⟩ (.slice va l.length vc)).cell? ⟨w.heap.size, 0, none⟩ = some (.int .i64 t) := HC4.out.c 0 rfl
  have k1 : (w3.setCell ⟨w.heap.size, 3, none⟩ (.slice va l.length vc)).cell? ⟨w.heap.size, 1, none⟩ = some (.slice ua L.length uc) := HC4.out.c 1 rfl
  have k2 : (w3.setCell ⟨w.heap.size, 3, none⟩ (.slice va l.length vc)).cell? ⟨w.heap.size, 2, none⟩ = some (.int .i64 f) := HC4.out.c 2 rfl
  have k3 : (w3.setCell ⟨w.heap.size, 3, none⟩ (.slice va l.length vc)).cell? ⟨w.heap.size, 3, none⟩ = some (.slice va l.length vc) := HC4.out.c 3 rfl
  have k4 : (w3.setCell ⟨w.heap.size, 3, none⟩ (.slice va l.length vc)).cell? ⟨w.heap.size, 4, none⟩ = some (.int .i64 dn) := HC4.out.c 4 rfl
  clear HC3 HB3 HU3 HY3 HC4 HC2 HB2 HV2
  go_wp2_with fail
  exact bodyPost_ret (v := .pointer (some ⟨w3.heap.size, 0, none⟩)) (by simp [results, Try.results21, go_sem]) rfl (RcS.mk HB4.out HU4.out (Nat.le_succ _) HY4.out (Nat.le_of_lt HZ2.out) HU2.out (Nat.le_refl _) _ (by simp))
set_option maxRecDepth 100000 in
set_option maxHeartbeats 4000000 in
theorem isValid_any (t f dn : Int) (s v : Value) (l : List Int) (n : Nat) (w : World) (hc : Cs w n #[.int .i64 t, s, .int .i64 f, v, .int .i64 dn]) (hv : IntsAt w v l) :
    Calls Try.prog 33 #[.pointer (some ⟨n, 0, none⟩)] w fun e w' => e = .returned (.bool (inr f 0 1000000000 && (vaB l && inr dn 0 1000001))) ∧ Below w.heap.size w w' := by
  have HC0 := Lib.hid hc
  have HV0 := Lib.hid hv
  have c2 : w.cell? ⟨n, 2, none⟩ = some (.int .i64 f) := hc.c 2 rfl
  have c3 : w.cell? ⟨n, 3, none⟩ = some v := hc.c 3 rfl
  have c4 : w.cell? ⟨n, 4, none⟩ = some (.int .i64 dn) := hc.c 4 rfl
  clear hc hv
  go_enter Try.func33, Try.ntmps33
  go_wp2_with fail
  refine (within2_any f 1000000000 _).mono ?_
  rintro e w' ⟨rfl, rfl⟩
  cases h1 : inr f 0 1000000000
  · go_wp2
    go_ret
    exact ⟨ret_bool (by simp [h1]), Below.refl _ _⟩
  go_wp2_with fail
  refine (areValues_any v l _ HV0.out).mono ?_
  rintro e w1 ⟨rfl, b1⟩
  have HB1 := Lib.hid b1
  have d4 : w1.cell? ⟨n, 4, none⟩ = some (.int .i64 dn) := (HC0.out.step b1).c 4 rfl
  clear b1 c2 c3 c4
  cases h2 : vaB l
  · go_wp2
    go_ret
    exact ⟨ret_bool (by simp [h1, h2]), HB1.out⟩
  go_wp2_with fail
  refine (within2_any dn 1000001 _).mono ?_
  rintro e w' ⟨rfl, rfl⟩
  go_wp2
  go_ret
  exact ⟨ret_bool (by simp [h1, h2]), HB1.out⟩
end Go.Proofs.Ytnanndmpbecdiaa
