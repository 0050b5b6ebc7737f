/- The window: 'Index', 'Contains', 'isWindow'. -/
import Derived.Test.YtkamkkjijjkfdaaVb
import Derived.Laws.Cover3
namespace Go.Proofs.Ytkamkkjijjkfdaa
open Go.RowKit

theorem an_hit {l : List Bool} {k : Nat} {b : Bool} (h : k < l.length) (hb : l.getD k false = b) : l.any (fun x => x == b) = true := by
  rw [List.any_eq_true]
  exact ⟨l.getD k false, List.mem_of_getElem? (bo_get h), by rw [hb]; simp⟩
theorem an_none {l : List Bool} {b : Bool} (h : ∀ j, j < l.length → l.getD j false = !b) : l.any (fun x => x == b) = false := by
  rw [List.any_eq_false]
  intro x hx
  obtain ⟨j, hj⟩ := List.getElem?_of_mem hx
  have h1 : j < l.length := (List.getElem?_eq_some_iff.1 hj).1
  have h2 := h j h1
  have h3 := bo_get h1
  rw [h3] at hj
  rw [← Option.some.inj hj, h2]
  cases b <;> simp
set_option maxRecDepth 100000 in
set_option maxHeartbeats 2000000 in
theorem bindex_any (v : Value) (l : List Bool) (b : Bool) (w : World) (h : BosAt w v l) :
    Calls Try.prog 58 #[v, .bool b] w fun e w' => (∃ k : Int, e = .returned (.int .i64 k) ∧ decide (0 ≤ k) = l.any (fun x => x == b)) ∧ Below w.heap.size w w' := by
  have HL := Lib.hid h
  obtain ⟨a, cap, rfl, hm, hc⟩ := h
  unfold maxLen at hm
  clear hc
  go_enter Try.func58, Try.ntmps58
  go_wp2_with fail
  go_loopw [8] (fun i wr => ∃ k : Nat, k ≤ l.length ∧ i = .int .i64 k ∧ Hid (∀ j, j < k → l.getD j false = !b) ∧ Hid (Below w.heap.size w wr)) (fun i _ => l.length - (intOf i).toNat)
  case atStart => exact ⟨0, by omega, rfl, fun j h => absurd h (by omega), Below.refl _ _⟩
  case round =>
    obtain ⟨k, hk, rfl, HN, HB⟩ := hrel
    by_cases hlt : k < l.length
    · obtain ⟨a2, cap2, hva, -, hcs⟩ := HL.out.step HB.out
      obtain ⟨rfl, rfl⟩ : a = a2 ∧ cap = cap2 := by simpa using hva
      obtain ⟨bb, off, rfl, hcs2⟩ := hcs (by intro h; rw [h] at hlt; simp at hlt)
      have x0 := hcs2 k _ (bo_get hlt)
      clear hcs hcs2 hva
      by_cases hf : l.getD k false = b
      · have HA := Lib.hid (an_hit hlt hf)
        rw [hf] at x0
        clear hf HN
        cases b
        all_goals
          go_wp2
          go_ret
          exact ⟨⟨k, rfl, by rw [HA.out]; simp⟩, HB.out⟩
      · have hg : l.getD k false = !b := by cases h1 : l.getD k false <;> cases b <;> simp_all
        have HN2 := Lib.hid (show ∀ j, j < k + 1 → l.getD j false = !b from fun j h => by
          by_cases e : j = k
          · subst e; exact hg
          · exact HN.out j (by omega))
        rw [hg] at x0
        clear hf hg HN
        cases b
        all_goals
          simp only [Bool.not_false, Bool.not_true] at x0
          go_wp2
          go_roundw
          case rel => exact ⟨k + 1, by omega, by go_num, HN2, HB⟩
          case measure => simp [intOf]; omega
    · have HF := Lib.hid (an_none fun j hj => HN.out j (by omega))
      go_wp2
      go_ret
      exact ⟨⟨-1, rfl, by rw [HF.out]; rfl⟩, HB.out⟩
theorem bcontains_any (v : Value) (l : List Bool) (b : Bool) (w : World) (h : BosAt w v l) :
    Calls Try.prog 57 #[v, .bool b] w fun e w' => e = .returned (.bool (l.any (fun x => x == b))) ∧ Below w.heap.size w w' := by
  have H := Lib.hid h
  clear h
  go_enter Try.func57, Try.ntmps57
  go_wp2_with fail
  refine (bindex_any v l b _ H.out).mono ?_
  rintro e w' ⟨⟨k, rfl, hk⟩, b1⟩
  have HK := Lib.hid hk
  have HB := Lib.hid b1
  clear hk b1
  go_wp2
  go_ret
  exact ⟨ret_bool HK.out, HB.out⟩
set_option maxRecDepth 100000 in
set_option maxHeartbeats 4000000 in
/-- The window before any number. -/
theorem isw_new (v : Value) (w : World) (h : BosAt w v (List.replicate 16 false)) :
    Calls Try.prog 55 #[.agg #[.int .i64 (-1), v]] w fun e w' => e = .returned (.bool true) ∧ Below w.heap.size w w' := by
  obtain ⟨a, cap, rfl, hm, hc⟩ := h
  obtain ⟨b, off, rfl, hx⟩ := hc (by simp)
  have HC := Lib.hid (Cs.new w w.heap.size #[.int .i64 (-1), .slice (some ⟨b, off, none⟩) (List.replicate 16 false).length cap] 27 rfl)
  have HB := Lib.hid (al w (.cells #[.int .i64 (-1), .slice (some ⟨b, off, none⟩) (List.replicate 16 false).length cap] 27))
  have x0 : (w.alloc (.cells #[.int .i64 (-1), .slice (some ⟨b, off, none⟩) (List.replicate 16 false).length cap] 27)).cell? ⟨b, off + 0, none⟩ = some (.bool false) := keep1 (al w _) (hx 0 false rfl)
  have x1 : (w.alloc (.cells #[.int .i64 (-1), .slice (some ⟨b, off, none⟩) (List.replicate 16 false).length cap] 27)).cell? ⟨b, off + 1, none⟩ = some (.bool false) := keep1 (al w _) (hx 1 false rfl)
  have x2 : (w.alloc (.cells #[.int .i64 (-1), .slice (some ⟨b, off, none⟩) (List.replicate 16 false).length cap] 27)).cell? ⟨b, off + 2, none⟩ = some (.bool false) := keep1 (al w _) (hx 2 false rfl)
  have x3 : (w.alloc (.cells #[.int .i64 (-1), .slice (some ⟨b, off, none⟩) (List.replicate 16 false).length cap] 27)).cell? ⟨b, off + 3, none⟩ = some (.bool false) := keep1 (al w _) (hx 3 false rfl)
  have x4 : (w.alloc (.cells #[.int .i64 (-1), .slice (some ⟨b, off, none⟩) (List.replicate 16 false).length cap] 27)).cell? ⟨b, off + 4, none⟩ = some (.bool false) := keep1 (al w _) (hx 4 false rfl)
  have x5 : (w.alloc (.cells #[.int .i64 (-1), .slice (some ⟨b, off, none⟩) (List.replicate 16 false).length cap] 27)).cell? ⟨b, off + 5, none⟩ = some (.bool false) := keep1 (al w _) (hx 5 false rfl)
  have x6 : (w.alloc (.cells #[.int .i64 (-1), .slice (some ⟨b, off, none⟩) (List.replicate 16 false).length cap] 27)).cell? ⟨b, off + 6, none⟩ = some (.bool false) := keep1 (al w _) (hx 6 false rfl)
  have x7 : (w.alloc (.cells #[.int .i64 (-1), .slice (some ⟨b, off, none⟩) (List.replicate 16 false).length cap] 27)).cell? ⟨b, off + 7, none⟩ = some (.bool false) := keep1 (al w _) (hx 7 false rfl)
  have x8 : (w.alloc (.cells #[.int .i64 (-1), .slice (some ⟨b, off, none⟩) (List.replicate 16 false).length cap] 27)).cell? ⟨b, off + 8, none⟩ = some (.bool false) := keep1 (al w _) (hx 8 false rfl)
  have x9 : (w.alloc (.cells #[.int .i64 (-1), .slice (some ⟨b, off, none⟩) (List.replicate 16 false).length cap] 27)).cell? ⟨b, off + 9, none⟩ = some (.bool false) := keep1 (al w _) (hx 9 false rfl)
  have x10 : (w.alloc (.cells #[.int .i64 (-1), .slice (some ⟨b, off, none⟩) (List.replicate 16 false).length cap] 27)).cell? ⟨b, off + 10, none⟩ = some (.bool false) := keep1 (al w _) (hx 10 false rfl)
  have x11 : (w.alloc (.cells #[.int .i64 (-1), .slice (some ⟨b, off, none⟩) (List.replicate 16 false).length cap] 27)).cell? ⟨b, off + 11, none⟩ = some (.bool false) := keep1 (al w _) (hx 11 false rfl)
  have x12 : (w.alloc (.cells #[.int .i64 (-1), .slice (some ⟨b, off, none⟩) (List.replicate 16 false).length cap] 27)).cell? ⟨b, off + 12, none⟩ = some (.bool false) := keep1 (al w _) (hx 12 false rfl)
  have x13 : (w.alloc (.cells #[.int .i64 (-1), .slice (some ⟨b, off, none⟩) (List.replicate 16 false).length cap] 27)).cell? ⟨b, off + 13, none⟩ = some (.bool false) := keep1 (al w _) (hx 13 false rfl)
  have x14 : (w.alloc (.cells #[.int .i64 (-1), .slice (some ⟨b, off, none⟩) (List.replicate 16 false).length cap] 27)).cell? ⟨b, off + 14, none⟩ = some (.bool false) := keep1 (al w _) (hx 14 false rfl)
  have x15 : (w.alloc (.cells #[.int .i64 (-1), .slice (some ⟨b, off, none⟩) (List.replicate 16 false).length cap] 27)).cell? ⟨b, off + 15, none⟩ = some (.bool false) := keep1 (al w _) (hx 15 false rfl)
  have hat : ∀ w, (Instr.arrayAt 88 (.slice (some ⟨b, off, none⟩) 16 cap)).run Try.prog w = .ok (.pointer (some ⟨b, off, none⟩)) w := fun w => run_arrayAt w 88 _ 16 _ 16 cap Try.underlying88 (Nat.le_refl _)
  have heq : ∀ w, (Op.equalIn 10000 88 (.agg #[.bool false, .bool false, .bool false, .bool false, .bool false, .bool false, .bool false, .bool false, .bool false, .bool false, .bool false, .bool false, .bool false, .bool false, .bool false, .bool false]) (.agg #[.bool false, .bool false, .bool false, .bool false, .bool false, .bool false, .bool false, .bool false, .bool false, .bool false, .bool false, .bool false, .bool false, .bool false, .bool false, .bool false])).run Try.prog w = .ok true w := fun _ => by kernel_rfl
  simp only [List.length_replicate, Nat.add_zero] at *
  clear hx hc hm
  go_enter Try.func55, Try.ntmps55
  go_wp2
  go_ret
  exact ⟨rfl, HB.out⟩
theorem bos_cut {w : World} {b off cap k n : Nat} {l : List Bool} (h : BosAt w (.slice (some ⟨b, off, none⟩) n cap) l) (hk : k ≤ l.length) (a : Option Addr) (ha : k < l.length → a = some ⟨b, off + k, none⟩) (c : Nat) : BosAt w (.slice a (l.length - k) c) (l.drop k) := by
  obtain ⟨a', cap', he, hm, hc⟩ := h
  refine ⟨a, c, by rw [List.length_drop], by rw [List.length_drop]; omega, fun hne => ?_⟩
  have h1 : k < l.length := by
    apply Classical.byContradiction; intro h
    exact hne (List.drop_eq_nil_of_le (by omega))
  obtain ⟨b', off', ha', hx⟩ := hc (by intro e; rw [e] at h1; simp at h1)
  obtain ⟨rfl, -, -⟩ : some (⟨b, off, none⟩ : Addr) = a' ∧ n = l.length ∧ cap = cap' := by simpa using he
  obtain ⟨rfl, rfl⟩ : b = b' ∧ off = off' := by simpa using ha'
  refine ⟨b, off + k, ha h1, fun i x hi => ?_⟩
  rw [List.getElem?_drop] at hi
  rw [Nat.add_assoc]
  exact hx (k + i) x hi
end Go.Proofs.Ytkamkkjijjkfdaa
