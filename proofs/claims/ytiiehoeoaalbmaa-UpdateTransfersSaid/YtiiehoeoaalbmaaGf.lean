/- Hash trees: 'Root'. -/
import Derived.Test.YtiiehoeoaalbmaaGe
import Derived.Maps.AppendAt
import Derived.Shelf.Abstract
import Derived.Shelf.RegionOpen
namespace Go.Proofs.Ytiiehoeoaalbmaa
open Go.RowKit
attribute [local go_sem] Oper.semAt_some

/-- The root behind so many rows. -/
def rtO (pre : List (List Int)) : Int := (pre.getLastD [7]).getD 0 0
theorem rtO_snoc (pre : List (List Int)) (x : List Int) : rtO (pre ++ [x]) = x.getD 0 0 := by simp [rtO]
theorem rowsF_ne : ∀ (n : Nat) (row : List Int) (pre : List (List Int)) (x : List Int) (r : List (List Int)), rowsF n row = pre ++ x :: r → x ≠ []
  | 0, _, pre, x, r, h => by simp [rowsF] at h
  | n + 1, row, pre, x, r, h => by
    unfold rowsF at h
    by_cases g : 1 < row.length
    · rw [if_pos g] at h
      cases pre with
      | nil =>
        simp at h
        intro e
        rw [h.1, e] at g
        simp at g
      | cons y s =>
        simp at h
        exact rowsF_ne n _ s x r h.2
    · rw [if_neg g] at h
      by_cases g2 : row.length = 1
      · rw [if_pos g2] at h
        cases pre with
        | nil =>
          simp at h
          intro e
          rw [h.1, e] at g2
          simp at g2
        | cons y s => simp at h
      · rw [if_neg g2] at h; simp at h
theorem rowsT_ne {row : List Int} {pre : List (List Int)} {x : List Int} {r : List (List Int)} (h : rowsT row = pre ++ x :: r) : x ≠ [] := rowsF_ne _ _ _ _ _ h
theorem rtO_all (row : List Int) : rtO (rowsT row) = rtT row := rfl
theorem ints_other {w : World} {g n c b : Nat} {l : List Int} (h : IntsAt w (.slice (some ⟨g, 0, none⟩) n c) l) (hne : g ≠ b) (j : Nat) (v : Value) : IntsAt (w.setCell ⟨b, j, none⟩ v) (.slice (some ⟨g, 0, none⟩) n c) l := by
  obtain ⟨a, cap, hv, hm, hc⟩ := h
  refine ⟨a, cap, hv, hm, fun hl => ?_⟩
  obtain ⟨b1, off, ha, hx⟩ := hc hl
  have hg : some (⟨g, 0, none⟩ : Addr) = a := by simp at hv; exact hv.1
  obtain rfl : b1 = g := by rw [ha] at hg; simp at hg; exact hg.1.symm
  exact ⟨b1, off, ha, fun i x h => (World.cell?_of_block (a := ⟨b1, off + i, none⟩) (Below.heap_setCell w ⟨b, j, none⟩ v b1 hne)).trans (hx i x h)⟩
set_option maxRecDepth 100000 in
set_option maxHeartbeats 4000000 in
theorem root_in (v : Value) (L : List (List Int)) (w : World) (h : RowsAt w v L) (h9 : L.length ≤ 1000) : CallsIn Fence.wide 9 Try.prog 38 #[v] w fun e w' => e = .returned (.int .i64 (rtT (lvs L))) ∧ Below w.heap.size w w' := by
  have H := Lib.hid h
  obtain ⟨a, cap, rfl, -, -⟩ := h
  have g1 : decide ((L.length : Int) > 1000) = false := by simp; omega
  have g2 : decide ((1000 : Int) < L.length) = false := by simp; omega
  refine callsIn_of_wp_marks Try.func38 rfl trivial ?_ rfl
  simp only [Try.ntmps38, List.size_toArray, List.length_cons, List.length_nil, Nat.reduceAdd, Nat.reduceSub, Array.replicate_succ, Array.replicate_zero, List.push_toArray, List.append_toArray, List.nil_append, List.cons_append]
  gi_wp2_with (refine ⟨trivial, ?_⟩; gi_at_call 67; refine (callsIn_wide.2 (rows_any _ _ _ _)).mono ?_; rintro e w' ⟨rfl, rfl⟩)
  have bR := (Boxed.new w 3 (.int .i64 7)).alloc (.cells #[.slice a L.length cap] 25)
  have bL := BoxN.new (w.alloc (.cells #[.int .i64 7] 3)) #[.slice a L.length cap] 25
  have hB0 : Below w.heap.size w ((w.alloc (.cells #[.int .i64 7] 3)).alloc (.cells #[.slice a L.length cap] 25)) := al2
  have hsz : ((w.alloc (.cells #[.int .i64 7] 3)).alloc (.cells #[.slice a L.length cap] 25)).heap.size = w.heap.size + 1 + 1 := by simp
  rw [World.size_alloc] at bL
  obtain ⟨W0, hW0⟩ : ∃ W0, (w.alloc (.cells #[.int .i64 7] 3)).alloc (.cells #[.slice a L.length cap] 25) = W0 := ⟨_, rfl⟩
  rw [hW0] at bR bL hB0 hsz ⊢
  clear hW0
  refine range_rows (β := Unit) (by omega) (gf := 76) (lb := #[.pointer (some ⟨w.heap.size + 1, 0, none⟩)]) rfl (enters_of Try.func76 (by kernel_rfl) rfl) (iterR_seq L _ w H.out h9 8 (by omega) (w.heap.size + 1) W0 hB0 bL) rfl
    (fun pre _ W => Boxed W w.heap.size 3 (.int .i64 (rtO pre)) ∧ Below w.heap.size w W) (fun _ => w.heap.size + 1) (fun _ _ _ h => h.1.lt) (fun _ _ _ => False)
    (fun _ => OwnFrom.and (Own.from (boxed_own w.heap.size 3 (fun pre : List (List Int) => Value.int .i64 (rtO pre))) _) (ownFrom_below (Nat.le_refl _) (by omega)))
    (fun _ _ _ _ _ hs _ _ => hs) () ⟨bR, hB0⟩
    (fun v => { tmps := #[.slice a L.length cap, undef, .int .i64 0, .pointer (some ⟨w.heap.size, 0, none⟩), v, .slice a L.length cap, .int .i64 L.length, .bool false, .slice a L.length cap, .func (.func 76) #[] #[.pointer (some ⟨w.heap.size + 1, 0, none⟩)], v, undef, undef, undef, undef], defers := [] }) ?assign ?body ?done ?stop
  case assign =>
    intro lp v W K hK
    gi_wp2
    exact hK
  case body =>
    rintro lp pre b x v W ⟨hv, hB⟩ ⟨g, c, rfl, hg, hx⟩ ⟨r, hr⟩
    have hc := hv.cell
    have hf := hv.frozen
    have hl := hv.lt
    have HV := Lib.hid hv
    have HX := Lib.hid hx
    have hne : x ≠ [] := rowsT_ne hr
    obtain ⟨a2, cap2, hva, -, hcs⟩ := hx
    obtain ⟨b1, off, ha, hcs2⟩ := hcs hne
    obtain ⟨rfl, rfl⟩ : b1 = g ∧ off = 0 := by
      simp only [Value.slice.injEq] at hva
      rw [ha] at hva
      simpa using hva.1.symm
    have x0 := hcs2 0 _ (getD_of (List.length_pos_iff.2 hne))
    obtain ⟨y, hy⟩ : ∃ y, x.getD 0 0 = y := ⟨_, rfl⟩
    rw [hy] at x0
    replace hy := Lib.hid hy
    have hlt : 0 < x.length := List.length_pos_iff.2 hne
    clear hcs2 hcs hv hva ha
    gi_wp2
    exact ⟨KeepsOthers.setCell _ _ _, ⟨(), by rw [rtO_snoc, hy.out]; exact HV.out.set _, hB.setCell (by simp) _⟩, ints_other HX.out (by omega) _ _⟩
  case done =>
    rintro D b W hD ⟨hv, hB⟩ hK
    have hc := hv.cell
    have hl := hv.lt
    rw [rtO_all] at hc
    clear hv
    gi_wp2
    refine ⟨by simp, .inl ⟨_, _, rfl, run_takeDeferred hK, ?_⟩⟩
    exact ⟨_, results_tmp rfl _ _ _, rfl, hB.trans (belowK_b (w := w) (Nat.le_refl _) W D _ _ (by omega) hK rfl rfl)⟩
  case stop =>
    rintro D c pre W _ _ h _
    exact h.elim
set_option maxRecDepth 100000 in
theorem root_any (v : Value) (L : List (List Int)) (w : World) (h : RowsAt w v L) : Calls Try.prog 38 #[v] w fun e w' => e = .returned (.int .i64 (rtL L)) ∧ Below w.heap.size w w' := by
  unfold rtL
  by_cases h9 : 1000 < L.length
  · rw [if_pos h9]
    obtain ⟨a, cap, rfl, -, -⟩ := h
    have g1 : decide ((L.length : Int) > 1000) = true := by simp; omega
    have g2 : decide ((1000 : Int) < L.length) = true := by simp; omega
    go_enter Try.func38, Try.ntmps38
    go_wp2
    go_ret
    exact ⟨rfl, Below.refl _ _⟩
  · rw [if_neg h9]
    exact callsIn_wide.1 (root_in v L w h (by omega))
end Go.Proofs.Ytiiehoeoaalbmaa
