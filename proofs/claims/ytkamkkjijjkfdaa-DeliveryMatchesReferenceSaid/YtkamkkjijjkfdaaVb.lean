/- Delivery: copies of lists, 'Fresh'. -/
import Derived.Test.YtkamkkjijjkfdaaWa
namespace Go.Proofs.Ytkamkkjijjkfdaa
open Go.RowKit

theorem bo_cells {w : World} {a : Option Addr} {cap : Nat} {l : List Bool} (h : BosAt w (.slice a l.length cap) l) (ad : Addr) (ha : a = some ad) : ∀ j u, (l.map (Value.bool))[j]? = some u → w.cell? (ad.add j) = some u := by
  intro j u hu
  obtain ⟨a', cap', he, -, hc⟩ := h
  obtain ⟨rfl, rfl⟩ : a = a' ∧ cap = cap' := by simpa using he
  rw [List.getElem?_map] at hu
  cases hj : l[j]? with
  | none => rw [hj] at hu; cases hu
  | some x =>
    rw [hj] at hu
    obtain ⟨b', off', ha', hx⟩ := hc (by intro e; rw [e] at hj; cases hj)
    rw [ha] at ha'
    obtain rfl : ad = ⟨b', off', none⟩ := by simpa using ha'
    rw [Go.WideShapes.add_plain, hx j x hj]
    exact hu
theorem bo_one (l : List Bool) : ∀ u ∈ l.map (Value.bool), u.oneCell' = true := by
  intro u hu
  rw [List.mem_map] at hu
  obtain ⟨x, -, rfl⟩ := hu
  rfl
theorem bo_info : (Try.prog.info? 4).map (fun i => (i.zero, i.size, i.bytes)) = some (some (.bool false), 1, 1) := by kernel_rfl
set_option maxRecDepth 100000 in
set_option maxHeartbeats 2000000 in
theorem bo_clone (v : Value) (l : List Bool) (w : World) (h : BosAt w v l) (h9 : l.length ≤ 100000) :
    Calls Try.prog 49 #[v] w fun e w' => ∃ u, e = .returned u ∧ w'.ownsRow w.heap.size 4 1 u l.length (l.map (Value.bool)) ∧ Below w.heap.size w w' := by
  have H := Lib.hid h
  obtain ⟨a, cap, rfl, hm, hc⟩ := h
  obtain ⟨i0, hi, hz0, hz1, hz2⟩ := info_parts bo_info
  have q22 : ∀ (w : World) (a : Option Addr) (n c n' c' : Nat), (binOp .eql 25 (.slice a n c) (.slice none n' c')).run Try.prog w = .ok (.bool a.isNone) w := fun w a n c n' c' => Lib.run_eql_slice_nil w _ _ a n c n' c' Try.underlying25
  cases a with
  | none =>
    have hl : l = [] := by
      cases l with
      | nil => rfl
      | cons x l => obtain ⟨b, off, e, -⟩ := hc (by simp); cases e
    subst hl
    clear H hc hm h9
    go_enter Try.func49, Try.ntmps49
    go_wp2
    go_ret
    exact ⟨_, rfl, World.ownsRow_nil _ _ _ _, Below.refl _ _⟩
  | some ad =>
    have HN := Lib.hid (bo_cells (H.out.step (al w (.cells #[] 4))) ad rfl)
    have c1 : 0 + l.length ≤ maxLen := by unfold maxLen; omega
    have c2 : (0 + l.length) * 1 ≤ 140737488355328 := by omega
    have HR := Lib.hid (show (w.alloc (.cells #[] 4)).ownsRow w.heap.size 4 1 (.slice (some ⟨w.heap.size, 0, none⟩) 0 0) 0 [] from
      ⟨rfl, .inr ⟨w.heap.size, 0, _, rfl, Nat.le_refl _, heap_alloc_new _ _, by omega, by unfold maxLen; omega, rfl, rfl⟩⟩)
    clear hc hm
    go_enter Try.func49, Try.ntmps49
    go_wp2_with (at_builtin; refine wpList_append_own _ rfl _ _ 25 rfl w.heap.size 4 i0 _ 1 1 Try.underlying25 hi hz0 hz1 hz2 rfl (by decide) _ _ _ rfl HR.out ad l.length cap (l.map (Value.bool)) rfl (by simp) HN.out (bo_one l) c1 c2 (by simp) ?_; intro v' w1 hown hgrow _; have HO := Lib.hid hown; have HG := Lib.hid hgrow; clear hown hgrow)
    have HB := Lib.hid ((al w (.cells #[] 4)).grown HG.out (by simp) (fun k e => by cases e; exact Nat.le_refl _))
    have HO2 := Lib.hid (show w1.ownsRow w.heap.size 4 1 v' l.length (l.map (Value.bool)) by have := HO.out; rw [Nat.zero_add] at this; exact this)
    clear HO
    go_wp2
    go_ret
    exact ⟨_, rfl, HO2.out, HB.out⟩
theorem in_cells {w : World} {a : Option Addr} {cap : Nat} {l : List Int} (h : IntsAt w (.slice a l.length cap) l) (ad : Addr) (ha : a = some ad) : ∀ j u, (l.map (Value.int .i64))[j]? = some u → w.cell? (ad.add j) = some u := by
  intro j u hu
  obtain ⟨a', cap', he, -, hc⟩ := h
  obtain ⟨rfl, rfl⟩ : a = a' ∧ cap = cap' := by simpa using he
  rw [List.getElem?_map] at hu
  cases hj : l[j]? with
  | none => rw [hj] at hu; cases hu
  | some x =>
    rw [hj] at hu
    obtain ⟨b', off', ha', hx⟩ := hc (by intro e; rw [e] at hj; cases hj)
    rw [ha] at ha'
    obtain rfl : ad = ⟨b', off', none⟩ := by simpa using ha'
    rw [Go.WideShapes.add_plain, hx j x hj]
    exact hu
theorem in_one (l : List Int) : ∀ u ∈ l.map (Value.int .i64), u.oneCell' = true := by
  intro u hu
  rw [List.mem_map] at hu
  obtain ⟨x, -, rfl⟩ := hu
  rfl
theorem in_info : (Try.prog.info? 3).map (fun i => (i.zero, i.size, i.bytes)) = some (some (.int .i64 0), 1, 8) := by kernel_rfl
set_option maxRecDepth 100000 in
set_option maxHeartbeats 2000000 in
theorem in_clone (v : Value) (l : List Int) (w : World) (h : IntsAt w v l) (h9 : l.length ≤ 100000) :
    Calls Try.prog 41 #[v] w fun e w' => ∃ u, e = .returned u ∧ w'.ownsRow w.heap.size 3 1 u l.length (l.map (Value.int .i64)) ∧ Below w.heap.size w w' := by
  have H := Lib.hid h
  obtain ⟨a, cap, rfl, hm, hc⟩ := h
  obtain ⟨i0, hi, hz0, hz1, hz2⟩ := info_parts in_info
  have q22 : ∀ (w : World) (a : Option Addr) (n c n' c' : Nat), (binOp .eql 28 (.slice a n c) (.slice none n' c')).run Try.prog w = .ok (.bool a.isNone) w := fun w a n c n' c' => Lib.run_eql_slice_nil w _ _ a n c n' c' Try.underlying28
  cases a with
  | none =>
    have hl : l = [] := by
      cases l with
      | nil => rfl
      | cons x l => obtain ⟨b, off, e, -⟩ := hc (by simp); cases e
    subst hl
    clear H hc hm h9
    go_enter Try.func41, Try.ntmps41
    go_wp2
    go_ret
    exact ⟨_, rfl, World.ownsRow_nil _ _ _ _, Below.refl _ _⟩
  | some ad =>
    have HN := Lib.hid (in_cells (H.out.step (al w (.cells #[] 3))) ad rfl)
    have c1 : 0 + l.length ≤ maxLen := by unfold maxLen; omega
    have c2 : (0 + l.length) * 8 ≤ 140737488355328 := by omega
    have HR := Lib.hid (show (w.alloc (.cells #[] 3)).ownsRow w.heap.size 3 1 (.slice (some ⟨w.heap.size, 0, none⟩) 0 0) 0 [] from
      ⟨rfl, .inr ⟨w.heap.size, 0, _, rfl, Nat.le_refl _, heap_alloc_new _ _, by omega, by unfold maxLen; omega, rfl, rfl⟩⟩)
    clear hc hm
    go_enter Try.func41, Try.ntmps41
    go_wp2_with (at_builtin; refine wpList_append_own _ rfl _ _ 28 rfl w.heap.size 3 i0 _ 1 8 Try.underlying28 hi hz0 hz1 hz2 rfl (by decide) _ _ _ rfl HR.out ad l.length cap (l.map (Value.int .i64)) rfl (by simp) HN.out (in_one l) c1 c2 (by simp) ?_; intro v' w1 hown hgrow _; have HO := Lib.hid hown; have HG := Lib.hid hgrow; clear hown hgrow)
    have HB := Lib.hid ((al w (.cells #[] 3)).grown HG.out (by simp) (fun k e => by cases e; exact Nat.le_refl _))
    have HO2 := Lib.hid (show w1.ownsRow w.heap.size 3 1 v' l.length (l.map (Value.int .i64)) by have := HO.out; rw [Nat.zero_add] at this; exact this)
    clear HO
    go_wp2
    go_ret
    exact ⟨_, rfl, HO2.out, HB.out⟩
theorem row_step {w w1 : World} {base e s : Nat} {v : Value} {n : Nat} {xs : List Value} (h : w.ownsRow base e s v n xs) (hb : Below w.heap.size w w1) : w1.ownsRow base e s v n xs := by
  refine ⟨h.1, ?_⟩
  rcases h.2 with h0 | ⟨g, cap, cur, h1, h2, h3, h4⟩
  · exact .inl h0
  · exact .inr ⟨g, cap, cur, h1, h2, (hb.block g (Array.getElem?_eq_some_iff.1 h3).1).trans h3, h4⟩
theorem row_slice {w : World} {base e s : Nat} {v : Value} {n : Nat} {xs : List Value} (h : w.ownsRow base e s v n xs) : ∃ a c, v = .slice a n c := by
  rcases h.2 with ⟨rfl, rfl⟩ | ⟨g, cap, cur, rfl, -⟩
  · exact ⟨none, 0, rfl⟩
  · exact ⟨_, _, rfl⟩
theorem bos_of_row {w : World} {base : Nat} {t : TypeId} {v : Value} {xs : List Bool} (h : w.ownsRow base t 1 v xs.length (xs.map Value.bool)) : BosAt w v xs := by
  rcases h.2 with ⟨rfl, hn⟩ | ⟨g, cap, cur, rfl, hbg, hg, hnc, hcm, hcur, htake⟩
  · have : xs = [] := by simpa using hn
    subst this
    exact bos_nil _
  · have hc := h.cells (g := g) rfl
    refine ⟨_, cap, rfl, by omega, fun _ => ⟨g, 0, rfl, fun i x hi => ?_⟩⟩
    have := hc i (.bool x) (by rw [List.getElem?_map, hi]; rfl)
    rwa [Go.WideShapes.add_plain] at this
theorem fresh1_any (w : World) : Calls Try.prog 28 #[] w fun e w' => ∃ s, e = .returned (.agg #[.int .i64 (-1), s]) ∧ w'.ownsRow w.heap.size 4 1 s 16 ((List.replicate 16 false).map Value.bool) ∧ Below w.heap.size w w' := by
  have hmk : ∀ w, (Instr.makeSlice 25 (.int .i64 16) (.int .i64 16)).run Try.prog w = .ok (.slice (some ⟨w.heap.size, 0, none⟩) 16 16) (w.alloc (.cells ((List.replicate 16 false).map Value.bool).toArray 4)) := fun _ => by kernel_rfl
  have HR := Lib.hid (show ((w.alloc (.cells #[.int .i64 (-1), .slice (some ⟨w.heap.size + 1, 0, none⟩) 16 16] 27)).alloc (.cells #[.bool false, .bool false, .bool false, .bool false, .bool false, .bool false, .bool false, .bool false, .bool false, .bool false, .bool false, .bool false, .bool false, .bool false, .bool false, .bool false] 4)).ownsRow w.heap.size 4 1 (.slice (some ⟨w.heap.size + 1, 0, none⟩) 16 16) 16 ((List.replicate 16 false).map Value.bool) from
    ⟨rfl, .inr ⟨w.heap.size + 1, 16, _, rfl, Nat.le_succ _, (by have h := heap_alloc_new (w.alloc (.cells #[.int .i64 (-1), .slice (some ⟨w.heap.size + 1, 0, none⟩) 16 16] 27)) (.cells #[.bool false, .bool false, .bool false, .bool false, .bool false, .bool false, .bool false, .bool false, .bool false, .bool false, .bool false, .bool false, .bool false, .bool false, .bool false, .bool false] 4); simpa using h), by omega, by unfold maxLen; omega, rfl, rfl⟩⟩)
  have HB := Lib.hid (al2 (w := w) (o1 := (.cells #[.int .i64 (-1), .slice (some ⟨w.heap.size + 1, 0, none⟩) 16 16] 27)) (o2 := (.cells #[.bool false, .bool false, .bool false, .bool false, .bool false, .bool false, .bool false, .bool false, .bool false, .bool false, .bool false, .bool false, .bool false, .bool false, .bool false, .bool false] 4)))
  go_enter Try.func28, Try.ntmps28
  go_wp2
  exact bodyPost_ret (v := .agg #[.int .i64 (-1), .slice (some ⟨w.heap.size + 1, 0, none⟩) 16 16]) (by simp [results, Try.results28, go_sem]) rfl ⟨_, rfl, HR.out, HB.out⟩
end Go.Proofs.Ytkamkkjijjkfdaa
