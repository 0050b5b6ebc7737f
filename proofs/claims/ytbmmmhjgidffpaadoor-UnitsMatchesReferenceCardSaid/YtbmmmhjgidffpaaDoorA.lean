/- The table of units; the contracts of the functions that look a unit up. -/
import Derived.Test.YtbmmmhjgidffpaaDoorRows
import Derived.WalkKit
import Derived.WalkSpells
import Derived.WalkLawsBesides
import Derived.Lib.Hide
import Derived.Laws.Rows
import Derived.Deep.QuietTactic
import Derived.BigQuiet
import Derived.Outline
namespace Go.Proofs.YtbmmmhjgidffpaaDoor
open Go.RowKit

theorem ret_int {k : IntKind} {a b : Int} (h : a = b) : Ending.returned (.int k a) = .returned (.int k b) := by rw [h]
theorem ret_bool {a b : Bool} (h : a = b) : Ending.returned (.bool a) = .returned (.bool b) := by rw [h]

/-- The table: names, dimensions, factors. -/
def tN (k : Nat) : ByteArray := match k with
  | 0 => ⟨#[]⟩ | 1 => ⟨#[67]⟩ | 2 => ⟨#[104]⟩ | 3 => ⟨#[109, 105, 110]⟩ | 4 => ⟨#[115]⟩ | 5 => ⟨#[107, 87]⟩ | 6 => ⟨#[87]⟩ | 7 => ⟨#[107, 87, 104]⟩ | 8 => ⟨#[87, 104]⟩ | 9 => ⟨#[108, 120]⟩ | 10 => ⟨#[37]⟩ | _ => ⟨#[]⟩
def tD (k : Nat) : Int := match k with
  | 0 => 1 | 1 => 2 | 2 => 3 | 3 => 3 | 4 => 3 | 5 => 4 | 6 => 4 | 7 => 5 | 8 => 5 | 9 => 6 | 10 => 7 | _ => 0
def tF (k : Nat) : Int := match k with
  | 0 => 1 | 1 => 1 | 2 => 3600 | 3 => 60 | 4 => 1 | 5 => 1000 | 6 => 1 | 7 => 1000 | 8 => 1 | 9 => 1 | 10 => 1 | _ => 0
def elt (k : Nat) : Value := .agg #[.string (tN k), .int .i64 (tD k), .int .i64 (tF k)]
def tcells : Array Value := #[.string (tN 0), .int .i64 (tD 0), .int .i64 (tF 0), .string (tN 1), .int .i64 (tD 1), .int .i64 (tF 1), .string (tN 2), .int .i64 (tD 2), .int .i64 (tF 2), .string (tN 3), .int .i64 (tD 3), .int .i64 (tF 3), .string (tN 4), .int .i64 (tD 4), .int .i64 (tF 4), .string (tN 5), .int .i64 (tD 5), .int .i64 (tF 5), .string (tN 6), .int .i64 (tD 6), .int .i64 (tF 6), .string (tN 7), .int .i64 (tD 7), .int .i64 (tF 7), .string (tN 8), .int .i64 (tD 8), .int .i64 (tF 8), .string (tN 9), .int .i64 (tD 9), .int .i64 (tF 9), .string (tN 10), .int .i64 (tD 10), .int .i64 (tF 10)]
def zeroU : Value := .agg #[.string ⟨#[]⟩, .int .i64 0, .int .i64 0]

theorem bcell {W w1 : World} (hb : Below W.heap.size W w1) : (∀ b o, b < W.heap.size → w1.cell? ⟨b, o, none⟩ = W.cell? ⟨b, o, none⟩) ∧ (∀ b o, b < W.heap.size → w1.frozen? ⟨b, o, none⟩ = W.frozen? ⟨b, o, none⟩) :=
  ⟨fun b o h => hb.cell (p := ⟨b, o, none⟩) h, fun b o h => hb.frozen (p := ⟨b, o, none⟩) h⟩
theorem one_cell {w : World} {b : Nat} {v : Value} (hc : w.cell? ⟨b, 0, none⟩ = some v) (o : Obj) : (w.alloc o).cell? ⟨b, 0, none⟩ = some v :=
  (((Below.refl w.heap.size w).alloc (Nat.le_refl _) o).cell (p := ⟨b, 0, none⟩) (World.block_lt_of_cell? _ _ hc)).trans hc

theorem named1_any (k : Nat) (s : ByteArray) (b : Nat) (w : World) (hc : w.cell? ⟨b, 0, none⟩ = some (.string s)) :
    Calls Tryd.prog 40 #[elt k, .pointer (some ⟨b, 0, none⟩)] w fun e w' => e = .returned (.bool ((tN k).toList == s.toList)) ∧ Below w.heap.size w w' := by
  unfold elt
  generalize tN k = n at *
  generalize tD k = d at *
  generalize tF k = f at *
  have h2 := one_cell hc
  clear hc
  go_enter Tryd.func40, Tryd.ntmps40
  go_wp2
  go_ret
  exact ⟨rfl, (Below.refl _ _).alloc (Nat.le_refl _) _⟩

set_option maxHeartbeats 400000 in
theorem base1_any (k : Nat) (x : Int) (b : Nat) (w : World) (hc : w.cell? ⟨b, 0, none⟩ = some (.int .i64 x)) :
    Calls Tryd.prog 41 #[elt k, .pointer (some ⟨b, 0, none⟩)] w fun e w' => e = .returned (.bool (tD k == x && tF k == 1)) ∧ Below w.heap.size w w' := by
  unfold elt
  generalize tN k = n at *
  generalize tD k = d at *
  generalize tF k = f at *
  have h2 := one_cell hc
  clear hc
  cases h : (d == x)
  · go_enter Tryd.func41, Tryd.ntmps41
    go_wp2
    go_ret
    exact ⟨rfl, (Below.refl _ _).alloc (Nat.le_refl _) _⟩
  · go_enter Tryd.func41, Tryd.ntmps41
    go_wp2
    go_ret
    exact ⟨ret_bool (by simp), (Below.refl _ _).alloc (Nat.le_refl _) _⟩

theorem tF_pos (k : Nat) (h : k < 11) : 1 ≤ tF k ∧ tF k ≤ 3600 :=
  (show ∀ k : Nat, k < 11 → 1 ≤ tF k ∧ tF k ≤ 3600 by decide) k h
set_option maxHeartbeats 400000 in
theorem greatest1_any (k : Nat) (hk : k < 11) (x v : Int) (b c : Nat) (w : World) (hc : w.cell? ⟨b, 0, none⟩ = some (.int .i64 x)) (hv : w.cell? ⟨c, 0, none⟩ = some (.int .i64 v)) :
    Calls Tryd.prog 42 #[elt k, .pointer (some ⟨b, 0, none⟩), .pointer (some ⟨c, 0, none⟩)] w fun e w' => e = .returned (.bool (tD k == x && (v.tmod (tF k)) == 0)) ∧ Below w.heap.size w w' := by
  unfold elt
  have hp := tF_pos k hk
  clear hk
  generalize tN k = n at *
  generalize tD k = d at *
  generalize tF k = f at *
  obtain ⟨hp1, hp2⟩ := hp
  have h2 := one_cell hc
  have h3 := one_cell hv
  clear hc hv
  cases h : (d == x)
  · go_enter Tryd.func42, Tryd.ntmps42
    go_wp2
    go_ret
    exact ⟨rfl, (Below.refl _ _).alloc (Nat.le_refl _) _⟩
  · go_enter Tryd.func42, Tryd.ntmps42
    go_wp2
    go_ret
    exact ⟨ret_bool (by simp), (Below.refl _ _).alloc (Nat.le_refl _) _⟩

theorem index_elt0 (w : World) : (Instr.index 68 (.agg tcells) (.int .i64 0)).run Tryd.prog w = .ok (elt 0) w := by kernel_rfl
theorem index_elt1 (w : World) : (Instr.index 68 (.agg tcells) (.int .i64 1)).run Tryd.prog w = .ok (elt 1) w := by kernel_rfl
theorem index_elt2 (w : World) : (Instr.index 68 (.agg tcells) (.int .i64 2)).run Tryd.prog w = .ok (elt 2) w := by kernel_rfl
theorem index_elt3 (w : World) : (Instr.index 68 (.agg tcells) (.int .i64 3)).run Tryd.prog w = .ok (elt 3) w := by kernel_rfl
theorem index_elt4 (w : World) : (Instr.index 68 (.agg tcells) (.int .i64 4)).run Tryd.prog w = .ok (elt 4) w := by kernel_rfl
theorem index_elt5 (w : World) : (Instr.index 68 (.agg tcells) (.int .i64 5)).run Tryd.prog w = .ok (elt 5) w := by kernel_rfl
theorem index_elt6 (w : World) : (Instr.index 68 (.agg tcells) (.int .i64 6)).run Tryd.prog w = .ok (elt 6) w := by kernel_rfl
theorem index_elt7 (w : World) : (Instr.index 68 (.agg tcells) (.int .i64 7)).run Tryd.prog w = .ok (elt 7) w := by kernel_rfl
theorem index_elt8 (w : World) : (Instr.index 68 (.agg tcells) (.int .i64 8)).run Tryd.prog w = .ok (elt 8) w := by kernel_rfl
theorem index_elt9 (w : World) : (Instr.index 68 (.agg tcells) (.int .i64 9)).run Tryd.prog w = .ok (elt 9) w := by kernel_rfl
theorem index_elt10 (w : World) : (Instr.index 68 (.agg tcells) (.int .i64 10)).run Tryd.prog w = .ok (elt 10) w := by kernel_rfl
theorem index_elt (k : Nat) (hk : k < 11) (w : World) : (Instr.index 68 (.agg tcells) (.int .i64 k)).run Tryd.prog w = .ok (elt k) w := by
  match k, hk with
  | 0, _ => exact index_elt0 w
  | 1, _ => exact index_elt1 w
  | 2, _ => exact index_elt2 w
  | 3, _ => exact index_elt3 w
  | 4, _ => exact index_elt4 w
  | 5, _ => exact index_elt5 w
  | 6, _ => exact index_elt6 w
  | 7, _ => exact index_elt7 w
  | 8, _ => exact index_elt8 w
  | 9, _ => exact index_elt9 w
  | 10, _ => exact index_elt10 w
/-- What 'first' gives. -/
def FirstPost (p : Nat → Bool) (w : World) (e : Ending) (w' : World) : Prop :=
  ((∃ k, k < 11 ∧ p k = true ∧ (∀ j, j < k → p j = false) ∧ e = .returned (.tuple #[elt k, .bool true])) ∨ ((∀ j, j < 11 → p j = false) ∧ e = .returned (.tuple #[zeroU, .bool false]))) ∧ Below w.heap.size w w'

theorem FirstPost.yes {p : Nat → Bool} {w w' : World} {k : Nat} (hk : k < 11) (hp : p k = true) (hn : ∀ j, j < k → p j = false) (hb : Below w.heap.size w w') : FirstPost p w (.returned (.tuple #[elt k, .bool true])) w' := ⟨.inl ⟨k, hk, hp, hn, rfl⟩, hb⟩
theorem FirstPost.no {p : Nat → Bool} {w w' : World} (hn : ∀ j, j < 11 → p j = false) (hb : Below w.heap.size w w') : FirstPost p w (.returned (.tuple #[zeroU, .bool false])) w' := ⟨.inr ⟨hn, rfl⟩, hb⟩
theorem below2 {W wr : World} {o p : Obj} (hb : Below (W.heap.size + 2) ((W.alloc o).alloc p) wr) : Below W.heap.size W wr :=
  (((Below.refl _ _).alloc (Nat.le_refl _) _).alloc (by simp) _).trans (hb.mono (by omega))
theorem row3 {W wr : World} {o : Obj} {x y z : Value} {t : TypeId} (hb : Below (W.heap.size + 2) ((W.alloc o).alloc (.cells #[x, y, z] t)) wr) :
    (wr.cell? ⟨W.heap.size + 1, 0, none⟩ = some x ∧ wr.frozen? ⟨W.heap.size + 1, 0, none⟩ = false) ∧ (wr.cell? ⟨W.heap.size + 1, 1, none⟩ = some y ∧ wr.frozen? ⟨W.heap.size + 1, 1, none⟩ = false) ∧ (wr.cell? ⟨W.heap.size + 1, 2, none⟩ = some z ∧ wr.frozen? ⟨W.heap.size + 1, 2, none⟩ = false) := by
  have h := fun j => hb.cell (p := ⟨W.heap.size + 1, j, none⟩) (by show W.heap.size + 1 < W.heap.size + 2; omega)
  have g := fun j => hb.frozen (p := ⟨W.heap.size + 1, j, none⟩) (by show W.heap.size + 1 < W.heap.size + 2; omega)
  have hc := fun (j : Nat) => cell_of_row ((W.alloc o).alloc (.cells #[x, y, z] t)) (W.heap.size + 1) j #[x, y, z] t (0, 0) (heap_alloc2_new _ _ _)
  have hf := fun (j : Nat) => show ((W.alloc o).alloc (.cells #[x, y, z] t)).frozen? ⟨W.heap.size + 1, j, none⟩ = false by have := heap_alloc2_new W o (.cells #[x, y, z] t); simp only [World.frozen?, this]; simp
  exact ⟨⟨(h 0).trans (hc 0), (g 0).trans (hf 0)⟩, ⟨(h 1).trans (hc 1), (g 1).trans (hf 1)⟩, ⟨(h 2).trans (hc 2), (g 2).trans (hf 2)⟩⟩
theorem old3 {w w1 : World} {o : Obj} {n : Nat} (hb : Below (w.alloc o).heap.size (w.alloc o) w1) (hn : n < w.heap.size) :
    (w1.cell? ⟨n, 0, none⟩ = w.cell? ⟨n, 0, none⟩ ∧ w1.frozen? ⟨n, 0, none⟩ = w.frozen? ⟨n, 0, none⟩) ∧ (w1.cell? ⟨n, 1, none⟩ = w.cell? ⟨n, 1, none⟩ ∧ w1.frozen? ⟨n, 1, none⟩ = w.frozen? ⟨n, 1, none⟩) ∧ (w1.cell? ⟨n, 2, none⟩ = w.cell? ⟨n, 2, none⟩ ∧ w1.frozen? ⟨n, 2, none⟩ = w.frozen? ⟨n, 2, none⟩) := by
  have hb' : Below w.heap.size w w1 := ((Below.refl _ _).alloc (Nat.le_refl _) _).trans (hb.mono (by simp))
  exact ⟨⟨hb'.cell (p := ⟨n, 0, none⟩) hn, hb'.frozen (p := ⟨n, 0, none⟩) hn⟩, ⟨hb'.cell (p := ⟨n, 1, none⟩) hn, hb'.frozen (p := ⟨n, 1, none⟩) hn⟩, ⟨hb'.cell (p := ⟨n, 2, none⟩) hn, hb'.frozen (p := ⟨n, 2, none⟩) hn⟩⟩
theorem alloc_of {B : Nat} {w w1 : World} {o : Obj} (h : Below B (w.alloc o) w1) (hB : B ≤ w.heap.size) : Below B w w1 := ((Below.refl _ _).alloc hB _).trans h
theorem three_cells {w w1 : World} {x y z : Value} {t : TypeId} (hb : Below (w.alloc (.cells #[x, y, z] t)).heap.size (w.alloc (.cells #[x, y, z] t)) w1) :
    w1.cell? ⟨w.heap.size, 0, none⟩ = some x ∧ w1.cell? ⟨w.heap.size, 1, none⟩ = some y ∧ w1.cell? ⟨w.heap.size, 2, none⟩ = some z := by
  have h := fun j => hb.cell (p := ⟨w.heap.size, j, none⟩) (by simp)
  have hc := fun (j : Nat) => cell_of_row (w.alloc (.cells #[x, y, z] t)) w.heap.size j #[x, y, z] t (0, 0) (heap_alloc_new _ _)
  exact ⟨(h 0).trans (hc 0), (h 1).trans (hc 1), (h 2).trans (hc 2)⟩

set_option maxRecDepth 100000 in
set_option maxHeartbeats 1000000 in
theorem first1 (n : Nat) (q1 : Value) (p : Nat → Bool) (W : World) (heg : ∀ args w, (callFunc n args).run Tryd.prog w = .ok (.enter n args) w)
    (H : ∀ k w, k < 11 → Below W.heap.size W w → Calls Tryd.prog n #[elt k, q1] w fun e w' => e = .returned (.bool (p k)) ∧ Below w.heap.size w w') :
    Calls Tryd.prog 39 #[.agg tcells, .func (.func n) #[] #[q1]] W (FirstPost p W) := by
  have HH := Lib.hid H
  clear H
  go_enter Tryd.func39, Tryd.ntmps39
  go_wp2_with (with_reducible refine wpList_load_row rfl 68 _ rfl _ rfl 68 tcells (0, 0) _ (heap_alloc2_old _ _ _) Tryd.underlying68 rfl (by kernel_rfl) ?_)
  have HI := Lib.hid index_elt
  go_loopw [10] (fun i wr => ∃ k : Nat, k ≤ 11 ∧ i = .int .i64 k ∧ Hid (∀ j, j < k → p j = false) ∧ Below (W.heap.size + 2) ((W.alloc (Obj.cells tcells 68)).alloc (Obj.cells #[Value.string { data := #[] }, Value.int IntKind.i64 0, Value.int IntKind.i64 0] 50)) wr) (fun i _ => 11 - (intOf i).toNat)
  case atStart => exact ⟨0, by omega, rfl, fun j hj => absurd hj (by omega), Below.refl _ _⟩
  case round =>
    obtain ⟨k, hk, rfl, HN, hb⟩ := hrel
    have hz : W.heap.size + 2 ≤ wr.heap.size := Nat.le_trans (by simp) hb.size
    have HB := Lib.hid (below2 hb)
    have HB2 := Lib.hid hb
    have hout := row3 hb
    obtain ⟨⟨c0, f0⟩, ⟨c1, f1⟩, ⟨c2, f2⟩⟩ := hout
    clear hb
    by_cases hlt : k < 11
    · have hi := HI.out k hlt
      have hcall := Lib.hid (fun w hw => HH.out k w hlt hw)
      unfold elt at hi hcall
      cases hp : p k
      · have HP := Lib.hid hp
        clear hp c0 f0 c1 f1 c2 f2
        go_wp2_with fail
        refine (hcall.out _ (HB.out.alloc (by omega) _)).mono ?_
        rintro e w1 ⟨rfl, b1⟩
        rw [HP.out]
        clear hcall hi
        go_wp2_with fail
        go_roundw
        case rel => exact ⟨k + 1, by omega, by go_num, fun j hj => by
          by_cases e : j = k
          · rw [e]; exact HP.out
          · exact HN.out j (by omega), (HB2.out.alloc hz _).trans (b1.mono (by simp; omega))⟩
        case measure => simp [intOf]; omega
      · have HP := Lib.hid hp
        clear hp
        go_wp2_with fail
        refine (hcall.out _ (HB.out.alloc (by omega) _)).mono ?_
        rintro e w1 ⟨rfl, b1⟩
        rw [HP.out]
        have hall := three_cells b1
        obtain ⟨x0, x1, x2⟩ := hall
        have hz3 : W.heap.size + 1 < wr.heap.size := by omega
        have hold := old3 b1 hz3
        rw [c0, c1, c2, f0, f1, f2] at hold
        obtain ⟨⟨d0, g0⟩, ⟨d1, g1⟩, ⟨d2, g2⟩⟩ := hold
        have hz1 : wr.heap.size < w1.heap.size := Nat.lt_of_lt_of_le (by simp) b1.size
        have HB3 := Lib.hid (HB.out.trans (alloc_of (b1.mono (by simp; omega)) (by omega)))
        clear hcall hi b1 c0 c1 c2 f0 f1 f2
        have hz2 : W.heap.size + 1 < w1.heap.size := by omega
        go_wp2_with fail
        refine bodyPost_ret (v := .tuple #[elt k, .bool true]) (by simp [results, Tryd.results39, go_sem, elt, d0, d1, d2]) rfl (FirstPost.yes hlt HP.out HN.out ?_)
        exact ((HB3.out.setCell (by simp) _).setCell (by simp) _).setCell (by simp) _
    · have hz3 : W.heap.size + 1 < wr.heap.size := by omega
      have HN11 := Lib.hid (show ∀ j, j < 11 → p j = false from fun j hj => HN.out j (by omega))
      go_wp2_with fail
      refine bodyPost_ret (v := .tuple #[zeroU, .bool false]) (by simp [results, Tryd.results39, go_sem, zeroU, c0, c1, c2, hz3]) rfl (FirstPost.no HN11.out ?_)
      exact (((HB.out.setCell (by simp) _).setCell (by simp) _).setCell (by simp) _).alloc (by simp; omega) _
set_option maxRecDepth 100000 in
set_option maxHeartbeats 1000000 in
theorem first2 (n : Nat) (q1 q2 : Value) (p : Nat → Bool) (W : World) (heg : ∀ args w, (callFunc n args).run Tryd.prog w = .ok (.enter n args) w)
    (H : ∀ k w, k < 11 → Below W.heap.size W w → Calls Tryd.prog n #[elt k, q1, q2] w fun e w' => e = .returned (.bool (p k)) ∧ Below w.heap.size w w') :
    Calls Tryd.prog 39 #[.agg tcells, .func (.func n) #[] #[q1, q2]] W (FirstPost p W) := by
  have HH := Lib.hid H
  clear H
  go_enter Tryd.func39, Tryd.ntmps39
  go_wp2_with (with_reducible refine wpList_load_row rfl 68 _ rfl _ rfl 68 tcells (0, 0) _ (heap_alloc2_old _ _ _) Tryd.underlying68 rfl (by kernel_rfl) ?_)
  have HI := Lib.hid index_elt
  go_loopw [10] (fun i wr => ∃ k : Nat, k ≤ 11 ∧ i = .int .i64 k ∧ Hid (∀ j, j < k → p j = false) ∧ Below (W.heap.size + 2) ((W.alloc (Obj.cells tcells 68)).alloc (Obj.cells #[Value.string { data := #[] }, Value.int IntKind.i64 0, Value.int IntKind.i64 0] 50)) wr) (fun i _ => 11 - (intOf i).toNat)
  case atStart => exact ⟨0, by omega, rfl, fun j hj => absurd hj (by omega), Below.refl _ _⟩
  case round =>
    obtain ⟨k, hk, rfl, HN, hb⟩ := hrel
    have hz : W.heap.size + 2 ≤ wr.heap.size := Nat.le_trans (by simp) hb.size
    have HB := Lib.hid (below2 hb)
    have HB2 := Lib.hid hb
    have hout := row3 hb
    obtain ⟨⟨c0, f0⟩, ⟨c1, f1⟩, ⟨c2, f2⟩⟩ := hout
    clear hb
    by_cases hlt : k < 11
    · have hi := HI.out k hlt
      have hcall := Lib.hid (fun w hw => HH.out k w hlt hw)
      unfold elt at hi hcall
      cases hp : p k
      · have HP := Lib.hid hp
        clear hp c0 f0 c1 f1 c2 f2
        go_wp2_with fail
        refine (hcall.out _ (HB.out.alloc (by omega) _)).mono ?_
        rintro e w1 ⟨rfl, b1⟩
        rw [HP.out]
        clear hcall hi
        go_wp2_with fail
        go_roundw
        case rel => exact ⟨k + 1, by omega, by go_num, fun j hj => by
          by_cases e : j = k
          · rw [e]; exact HP.out
          · exact HN.out j (by omega), (HB2.out.alloc hz _).trans (b1.mono (by simp; omega))⟩
        case measure => simp [intOf]; omega
      · have HP := Lib.hid hp
        clear hp
        go_wp2_with fail
        refine (hcall.out _ (HB.out.alloc (by omega) _)).mono ?_
        rintro e w1 ⟨rfl, b1⟩
        rw [HP.out]
        have hall := three_cells b1
        obtain ⟨x0, x1, x2⟩ := hall
        have hz3 : W.heap.size + 1 < wr.heap.size := by omega
        have hold := old3 b1 hz3
        rw [c0, c1, c2, f0, f1, f2] at hold
        obtain ⟨⟨d0, g0⟩, ⟨d1, g1⟩, ⟨d2, g2⟩⟩ := hold
        have hz1 : wr.heap.size < w1.heap.size := Nat.lt_of_lt_of_le (by simp) b1.size
        have HB3 := Lib.hid (HB.out.trans (alloc_of (b1.mono (by simp; omega)) (by omega)))
        clear hcall hi b1 c0 c1 c2 f0 f1 f2
        have hz2 : W.heap.size + 1 < w1.heap.size := by omega
        go_wp2_with fail
        refine bodyPost_ret (v := .tuple #[elt k, .bool true]) (by simp [results, Tryd.results39, go_sem, elt, d0, d1, d2]) rfl (FirstPost.yes hlt HP.out HN.out ?_)
        exact ((HB3.out.setCell (by simp) _).setCell (by simp) _).setCell (by simp) _
    · have hz3 : W.heap.size + 1 < wr.heap.size := by omega
      have HN11 := Lib.hid (show ∀ j, j < 11 → p j = false from fun j hj => HN.out j (by omega))
      go_wp2_with fail
      refine bodyPost_ret (v := .tuple #[zeroU, .bool false]) (by simp [results, Tryd.results39, go_sem, zeroU, c0, c1, c2, hz3]) rfl (FirstPost.no HN11.out ?_)
      exact (((HB.out.setCell (by simp) _).setCell (by simp) _).setCell (by simp) _).alloc (by simp; omega) _

/-- The number of a unit in the table; 11 if there is none. -/
def ux (s : ByteArray) : Nat := ((List.range 11).find? fun k => (tN k).data.toList == s.data.toList).getD 11
/-- The number of the base unit of a dimension. -/
def bx (d : Int) : Nat := ((List.range 11).find? fun k => tD k == d && tF k == 1).getD 11
/-- The number of the greatest unit that divides a value. -/
def gx (d v : Int) : Nat := ((List.range 11).find? fun k => tD k == d && v.tmod (tF k) == 0).getD 11
theorem first_find {p : Nat → Bool} {w w' : World} {e : Ending} (h : FirstPost p w e w') :
    e = .returned (.tuple #[elt (((List.range 11).find? p).getD 11), .bool (decide ((((List.range 11).find? p).getD 11) < 11))]) ∧ Below w.heap.size w w' := by
  obtain ⟨⟨k, hk, hp, hn, rfl⟩ | ⟨hn, rfl⟩, hb⟩ := h
  · have : (List.range 11).find? p = some k := by
      rw [List.find?_range_eq_some]
      exact ⟨hp, by simpa using hk, fun j hj => by simp [hn j hj]⟩
    rw [this]
    exact ⟨by simp [hk], hb⟩
  · have : (List.range 11).find? p = none := by
      rw [List.find?_eq_none]
      intro x hx
      simp [hn x (by simpa using hx)]
    rw [this]
    exact ⟨rfl, hb⟩

/-- The table lies in a world. -/
def Tab (w : World) : Prop := ∃ t fr, w.heap[0]? = some (.cells tcells t fr)
theorem Tab.pos {w : World} (h : Tab w) : 1 ≤ w.heap.size := by obtain ⟨t, fr, h⟩ := h; exact (Array.getElem?_eq_some_iff.1 h).1
theorem Tab.below {w w' : World} {B : Nat} (h : Tab w) (hb : Below B w w') (hB : 1 ≤ B) : Tab w' := by obtain ⟨t, fr, h⟩ := h; exact ⟨t, fr, (hb.block 0 hB).trans h⟩
/-- The table's block, with its type and mark. -/
def TabAt (t : TypeId) (fr : Nat × Nat) (w : World) : Prop := w.heap[0]? = some (.cells tcells t fr)
theorem TabAt.alloc {t : TypeId} {fr : Nat × Nat} {w : World} (h : TabAt t fr w) (o : Obj) : TabAt t fr (w.alloc o) := (((Below.refl w.heap.size w).alloc (Nat.le_refl _) o).block 0 (Array.getElem?_eq_some_iff.1 h).1).trans h
theorem Tab.alloc {w : World} (h : Tab w) (o : Obj) : Tab (w.alloc o) := h.below (B := w.heap.size) ((Below.refl _ _).alloc (Nat.le_refl _) _) h.pos

/-- The cell of a boxed value, later. -/
theorem box_cell {w w' : World} {v : Value} {t : TypeId} {o : Obj} (hb : Below ((w.alloc (.cells #[v] t)).alloc o).heap.size ((w.alloc (.cells #[v] t)).alloc o) w') : w'.cell? ⟨w.heap.size, 0, none⟩ = some v :=
  (hb.cell (p := ⟨w.heap.size, 0, none⟩) (by simp; omega)).trans (by simp)
theorem ret_u {w w' : World} {o p : Obj} (hb : Below ((w.alloc o).alloc p).heap.size ((w.alloc o).alloc p) w') : w.heap.size + 1 < w'.heap.size := Nat.lt_of_lt_of_le (by simp) hb.size
theorem u_below {w w' : World} {o p : Obj} {x y z : Value} (hb : Below ((w.alloc o).alloc p).heap.size ((w.alloc o).alloc p) w') :
    Below w.heap.size w (((w'.setCell ⟨w.heap.size + 1, 0, none⟩ x).setCell ⟨w.heap.size + 1, 1, none⟩ y).setCell ⟨w.heap.size + 1, 2, none⟩ z) :=
  (((((((Below.refl _ _).alloc (Nat.le_refl _) _).alloc (by simp) _).trans (hb.mono (by simp; omega))).setCell (by simp) _).setCell (by simp) _).setCell (by simp) _)

set_option maxRecDepth 100000 in
set_option maxHeartbeats 1000000 in
theorem named_any (s : ByteArray) (w : World) (hT : Tab w) :
    Calls Tryd.prog 29 #[.string s] w fun e w' => e = .returned (.tuple #[elt (ux s), .bool (decide (ux s < 11))]) ∧ Below w.heap.size w w' := by
  obtain ⟨tt, fr, hT0⟩ := hT
  have HT := Lib.hid (show TabAt tt fr w from hT0)
  clear hT0
  go_enter Tryd.func29, Tryd.ntmps29
  go_wp2_with (refine wpList_load_row rfl 68 _ rfl 0 rfl tt tcells fr _ ((HT.out.alloc _).alloc _) Tryd.underlying68 rfl (by kernel_rfl) ?_)
  refine (first1 40 _ (fun k => (tN k).toList == s.toList) _ (fun _ _ => by kernel_rfl) (fun k w' hk hb => named1_any k s _ w' (box_cell hb))).mono ?_
  intro e w1 h1
  obtain ⟨rfl, b1⟩ := first_find h1
  rw [show ((List.range 11).find? fun k => (tN k).toList == s.toList).getD 11 = ux s by unfold ux; simp only [ByteArray.toList_eq]]
  have hz := ret_u b1
  obtain ⟨hc, hf⟩ := bcell b1
  simp only [elt]
  go_wp2_with fail
  exact bodyPost_ret (v := .tuple #[elt (ux s), .bool (decide (ux s < 11))]) (by simp [results, Tryd.results29, go_sem, elt, hc]) rfl ⟨rfl, u_below b1⟩
set_option maxRecDepth 100000 in
set_option maxHeartbeats 1000000 in
theorem base_any (d : Int) (w : World) (hT : Tab w) :
    Calls Tryd.prog 34 #[.int .i64 d] w fun e w' => e = .returned (.tuple #[elt (bx d), .bool (decide (bx d < 11))]) ∧ Below w.heap.size w w' := by
  obtain ⟨tt, fr, hT0⟩ := hT
  have HT := Lib.hid (show TabAt tt fr w from hT0)
  clear hT0
  go_enter Tryd.func34, Tryd.ntmps34
  go_wp2_with (refine wpList_load_row rfl 68 _ rfl 0 rfl tt tcells fr _ ((HT.out.alloc _).alloc _) Tryd.underlying68 rfl (by kernel_rfl) ?_)
  refine (first1 41 _ (fun k => tD k == d && tF k == 1) _ (fun _ _ => by kernel_rfl) (fun k w' hk hb => base1_any k d _ w' (box_cell hb))).mono ?_
  intro e w1 h1
  obtain ⟨rfl, b1⟩ := first_find h1
  rw [show ((List.range 11).find? fun k => tD k == d && tF k == 1).getD 11 = bx d from rfl]
  have hz := ret_u b1
  obtain ⟨hc, hf⟩ := bcell b1
  simp only [elt]
  go_wp2_with fail
  exact bodyPost_ret (v := .tuple #[elt (bx d), .bool (decide (bx d < 11))]) (by simp [results, Tryd.results34, go_sem, elt, hc]) rfl ⟨rfl, u_below b1⟩

theorem box_cell3 {w w' : World} {v u : Value} {t t2 : TypeId} {o : Obj} (hb : Below (((w.alloc (.cells #[v] t)).alloc (.cells #[u] t2)).alloc o).heap.size (((w.alloc (.cells #[v] t)).alloc (.cells #[u] t2)).alloc o) w') : w'.cell? ⟨w.heap.size, 0, none⟩ = some v ∧ w'.cell? ⟨w.heap.size + 1, 0, none⟩ = some u := by
  refine ⟨(hb.cell (p := ⟨w.heap.size, 0, none⟩) (by simp; omega)).trans ?_, (hb.cell (p := ⟨w.heap.size + 1, 0, none⟩) (by simp)).trans ?_⟩
  · rw [World.cell?_alloc_past _ _ _ (by simp; omega)]; simp
  · rw [World.cell?_alloc_past _ _ _ (by simp)]; simp
theorem ret_u3 {w w' : World} {o p q : Obj} (hb : Below (((w.alloc o).alloc p).alloc q).heap.size (((w.alloc o).alloc p).alloc q) w') : w.heap.size + 1 + 1 < w'.heap.size := Nat.lt_of_lt_of_le (by simp) hb.size
theorem u_below3 {w w' : World} {o p q : Obj} {x y z : Value} (hb : Below (((w.alloc o).alloc p).alloc q).heap.size (((w.alloc o).alloc p).alloc q) w') :
    Below w.heap.size w (((w'.setCell ⟨w.heap.size + 1 + 1, 0, none⟩ x).setCell ⟨w.heap.size + 1 + 1, 1, none⟩ y).setCell ⟨w.heap.size + 1 + 1, 2, none⟩ z) :=
  ((((((((Below.refl _ _).alloc (Nat.le_refl _) _).alloc (by simp) _).alloc (by simp; omega) _).trans (hb.mono (by simp; omega))).setCell (by simp; omega) _).setCell (by simp; omega) _).setCell (by simp; omega) _)
set_option maxRecDepth 100000 in
set_option maxHeartbeats 1000000 in
theorem greatest_any (d v : Int) (w : World) (hT : Tab w) :
    Calls Tryd.prog 35 #[.int .i64 d, .int .i64 v] w fun e w' => e = .returned (.tuple #[elt (gx d v), .bool (decide (gx d v < 11))]) ∧ Below w.heap.size w w' := by
  obtain ⟨tt, fr, hT0⟩ := hT
  have HT := Lib.hid (show TabAt tt fr w from hT0)
  clear hT0
  go_enter Tryd.func35, Tryd.ntmps35
  go_wp2_with (refine wpList_load_row rfl 68 _ rfl 0 rfl tt tcells fr _ (((HT.out.alloc _).alloc _).alloc _) Tryd.underlying68 rfl (by kernel_rfl) ?_)
  refine (first2 42 _ _ (fun k => tD k == d && v.tmod (tF k) == 0) _ (fun _ _ => by kernel_rfl) (fun k w' hk hb => greatest1_any k hk d v _ _ w' (box_cell3 hb).1 (box_cell3 hb).2)).mono ?_
  intro e w1 h1
  obtain ⟨rfl, b1⟩ := first_find h1
  rw [show ((List.range 11).find? fun k => tD k == d && v.tmod (tF k) == 0).getD 11 = gx d v from rfl]
  have hz := ret_u3 b1
  obtain ⟨hc, hf⟩ := bcell b1
  simp only [elt]
  go_wp2_with fail
  exact bodyPost_ret (v := .tuple #[elt (gx d v), .bool (decide (gx d v < 11))]) (by simp [results, Tryd.results35, go_sem, elt, hc]) rfl ⟨rfl, u_below3 b1⟩
end Go.Proofs.YtbmmmhjgidffpaaDoor
