import Derived.Maps.AppendAt
import Derived.Shelf.Abstract
import Derived.Shelf.RegionOpen
import Derived.Test.YteodafhgfcbdpaaGe
namespace Go.Proofs.Yteodafhgfcbdpaa
open Go.RowKit
attribute [local go_sem] Oper.semAt_some

/-- The root behind so many rows. -/
def rtO (pre : List (List Int)) : Int := (pre.getLastD [7]).getD 0 0
theorem rtO_snoc (pre : List (List Int)) (x : List Int) : rtO (pre ++ [x]) = x.getD 0 0 := by simp [rtO]
theorem rowsF_ne : ∀ (n : Nat) (row : List Int) (pre : List (List Int)) (x : List Int) (r : List (List Int)), rowsF n row = pre ++ x :: r → x ≠ []
  | 0, _, pre, x, r, h => by simp [rowsF] at h
  | n + 1, row, pre, x, r, h => by
    unfold rowsF at h
    by_cases g : 1 < row.length
    · rw [if_pos g] at h
      cases pre with
      | nil =>
        simp at h
        intro e
        rw [h.1, e] at g
        simp at g
      | cons y s =>
        simp at h
        exact rowsF_ne n _ s x r h.2
    · rw [if_neg g] at h
      by_cases g2 : row.length = 1
      · rw [if_pos g2] at h
        cases pre with
        | nil =>
          simp at h
          intro e
          rw [h.1, e] at g2
          simp at g2
        | cons y s => simp at h
      · rw [if_neg g2] at h; simp at h
theorem rowsT_ne {row : List Int} {pre : List (List Int)} {x : List Int} {r : List (List Int)} (h : rowsT row = pre ++ x :: r) : x ≠ [] := rowsF_ne _ _ _ _ _ h
theorem rtO_all (row : List Int) : rtO (rowsT row) = rtT row := rfl
theorem ints_other {w : World} {g n c b : Nat} {l : List Int} (h : IntsAt w (.slice (some ⟨g, 0, none⟩) n c) l) (hne : g ≠ b) (j : Nat) (v : Value) : IntsAt (w.setCell ⟨b, j, none⟩ v) (.slice (some ⟨g, 0, none⟩) n c) l := by
  obtain ⟨a, cap, hv, hm, hc⟩ := h
  refine ⟨a, cap, hv, hm, fun hl => ?_⟩
  obtain ⟨b1, off, ha, hx⟩ := hc hl
  have hg : some (⟨g, 0, none⟩ : Addr) = a := by simp at hv; exact hv.1
  obtain rfl : b1 = g := by rw [ha] at hg; simp at hg; exact hg.1.symm
  exact ⟨b1, off, ha, fun i x h => (World.cell?_of_block (a := ⟨b1, off + i, none⟩) (Below.heap_setCell w ⟨b, j, none⟩ v b1 hne)).trans (hx i x h)⟩
set_option maxRecDepth 100000 in
set_option maxHeartbeats 4000000 in
theorem root_in (v : Value) (L : List (List Int)) (w : World) (h : RowsAt w v L) (h9 : L.length ≤ 1000) : CallsIn Fence.wide 9 Try.prog 38 #[v] w fun e w' => e = .returned (.int .i64 (rtT (lvs L))) ∧ Below w.heap.size w w' := by
  have H := Lib.hid h
  obtain ⟨a, cap, rfl, -, -⟩ := h
  have g1 : decide ((L.length : Int) > 1000) = false := by simp; omega
  have g2 : decide ((1000 : Int) < L.length) = false := by simp; omega
  refine callsIn_of_wp_marks Try.func38 rfl trivial ?_ rfl
  simp only [Try.ntmps38, List.size_toArray, List.length_cons, List.length_nil, Nat.reduceAdd, Nat.reduceSub, Array.replicate_succ, Array.replicate_zero, List.push_toArray, List.append_toArray, List.nil_append, List.cons_append]
  gi_wp2_with (refine ⟨trivial, ?_⟩; gi_at_call 67; refine (callsIn_wide.2 (rows_any _ _ _ _)).mono ?_; rintro e w' ⟨rfl, rfl⟩)
  have bR := (Boxed.new w 3 (.int .i64 7)).alloc (.cells #[.slice a L.length cap] 25)
  have bL := BoxN.new (w.alloc (.cells #[.int .i64 7] 3)) #[.slice a L.length cap] 25
  have hB0 : Below w.heap.size w ((w.alloc (.cells #[.int .i64 7] 3)).alloc (.cells #[.slice a L.length cap] 25)) := al2
  have hsz : ((w.alloc (.cells #[.int .i64 7] 3)).alloc (.cells #[.slice a L.length cap] 25)).heap.size = w.heap.size + 1 + 1 := by simp
  rw [World.size_alloc] at bL
  obtain ⟨W0, hW0⟩ : ∃ W0, (w.alloc (.cells #[.int .i64 7] 3)).alloc (.cells #[.slice a L.length cap] 25) = W0 := ⟨_, rfl⟩
  rw [hW0] at bR bL hB0 hsz ⊢
  clear hW0
  refine range_rows (β := Unit) (by omega) (gf := 76) (lb := #[.pointer (some ⟨w.heap.size + 1, 0, none⟩)]) rfl (enters_of Try.func76 (by kernel_rfl) rfl) (iterR_seq L _ w H.out h9 8 (by omega) (w.heap.size + 1) W0 hB0 bL) rfl
    (fun pre _ W => Boxed W w.heap.size 3 (.int .i64 (rtO pre)) ∧ Below w.heap.size w W) (fun _ => w.heap.size + 1) (fun _ _ _ h => h.1.lt) (fun _ _ _ => False)
    (fun _ => OwnFrom.and (Own.from (boxed_own w.heap.size 3 (fun pre : List (List Int) => Value.int .i64 (rtO pre))) _) (ownFrom_below (Nat.le_refl _) (by omega)))
    (fun _ _ _ _ _ hs _ _ => hs) () ⟨bR, hB0⟩
    (fun v => { tmps := #[.slice a L.length cap, undef, .int .i64 0, .pointer (some ⟨w.heap.size, 0, none⟩), v, .slice a L.length cap, .int .i64 L.length, .bool false, .slice a L.length cap, .func (.func 76) #[] #[.pointer (some ⟨w.heap.size + 1, 0, none⟩)], v, undef, undef, undef, undef], defers := [] }) ?assign ?body ?done ?stop
  case assign =>
    intro lp v W K hK
    gi_wp2
    exact hK
  case body =>
    rintro lp pre b x v W ⟨hv, hB⟩ ⟨g, c, rfl, hg, hx⟩ ⟨r, hr⟩
    have hc := hv.cell
    have hf := hv.frozen
    have hl := hv.lt
    have HV := Lib.hid hv
    have HX := Lib.hid hx
    have hne : x ≠ [] := rowsT_ne hr
    obtain ⟨a2, cap2, hva, -, hcs⟩ := hx
    obtain ⟨b1, off, ha, hcs2⟩ := hcs hne
    obtain ⟨rfl, rfl⟩ : b1 = g ∧ off = 0 := by
      simp only [Value.slice.injEq] at hva
      rw [ha] at hva
      simpa using hva.1.symm
    have x0 := hcs2 0 _ (getD_of (List.length_pos_iff.2 hne))
    obtain ⟨y, hy⟩ : ∃ y, x.getD 0 0 = y := ⟨_, rfl⟩
    rw [hy] at x0
    replace hy := Lib.hid hy
    have hlt : 0 < x.length := List.length_pos_iff.2 hne
    clear hcs2 hcs hv hva ha
    gi_wp2
    exact ⟨KeepsOthers.setCell _ _ _, ⟨(), by rw [rtO_snoc, hy.out]; exact HV.out.set _, hB.setCell (by simp) _⟩, ints_other HX.out (by omega) _ _⟩
  case done =>
    rintro D b W hD ⟨hv, hB⟩ hK
    have hc := hv.cell
    have hl := hv.lt
    rw [rtO_all] at hc
    clear hv
    gi_wp2
    refine ⟨by simp, .inl ⟨_, _, rfl, run_takeDeferred hK, ?_⟩⟩
    exact ⟨_, results_tmp rfl _ _ _, rfl, hB.trans (belowK_b (w := w) (Nat.le_refl _) W D _ _ (by omega) hK rfl rfl)⟩
  case stop =>
    rintro D c pre W _ _ h _
    exact h.elim
set_option maxRecDepth 100000 in
theorem root_any (v : Value) (L : List (List Int)) (w : World) (h : RowsAt w v L) : Calls Try.prog 38 #[v] w fun e w' => e = .returned (.int .i64 (rtL L)) ∧ Below w.heap.size w w' := by
  unfold rtL
  by_cases h9 : 1000 < L.length
  · rw [if_pos h9]
    obtain ⟨a, cap, rfl, -, -⟩ := h
    have g1 : decide ((L.length : Int) > 1000) = true := by simp; omega
    have g2 : decide ((1000 : Int) < L.length) = true := by simp; omega
    go_enter Try.func38, Try.ntmps38
    go_wp2
    go_ret
    exact ⟨rfl, Below.refl _ _⟩
  · rw [if_neg h9]
    exact callsIn_wide.1 (root_in v L w h (by omega))
open Go.RowKit
attribute [local go_sem] Oper.semAt_some

/-- The index of the other one of a pair; what stands for it; a path, and the index behind it. -/
def sib (i : Nat) : Nat := if i % 2 = 1 then i - 1 else i + 1
def oth (row : List Int) (i : Nat) : Int := if sib i < row.length then row.getD (sib i) 0 else -1
def pthP : List (List Int) → Nat → List Int
  | [], _ => []
  | row :: r, i => oth row i :: pthP r (i / 2)
def idxP : List (List Int) → Nat → Nat
  | [], i => i
  | _ :: r, i => idxP r (i / 2)
def pthL : List (List Int) → Nat → List Int
  | [], _ => []
  | row :: r, i => if row.length = 1 then [] else oth row i :: pthL r (i / 2)
theorem pthP_snoc : ∀ (pre : List (List Int)) (x : List Int) (i : Nat), pthP (pre ++ [x]) i = pthP pre i ++ [oth x (idxP pre i)]
  | [], x, i => rfl
  | y :: r, x, i => by simp [pthP, idxP, pthP_snoc r x (i / 2)]
theorem idxP_snoc : ∀ (pre : List (List Int)) (x : List Int) (i : Nat), idxP (pre ++ [x]) i = idxP pre i / 2
  | [], x, i => rfl
  | y :: r, x, i => by simp [idxP, idxP_snoc r x (i / 2)]
theorem pthP_len : ∀ (pre : List (List Int)) (i : Nat), (pthP pre i).length = pre.length
  | [], _ => rfl
  | y :: r, i => by simp [pthP, pthP_len r (i / 2)]
theorem idxP_le : ∀ (pre : List (List Int)) (i : Nat), idxP pre i ≤ i
  | [], _ => Nat.le_refl _
  | y :: r, i => by
    have := idxP_le r (i / 2)
    simp only [idxP]; omega
theorem pthL_stop : ∀ (pre : List (List Int)) (x : List Int) (r : List (List Int)) (i : Nat), (∀ y ∈ pre, y.length ≠ 1) → x.length = 1 → pthL (pre ++ x :: r) i = pthP pre i
  | [], x, r, i, _, h => by simp [pthL, pthP, h]
  | y :: s, x, r, i, hn, h => by
    have h1 := hn y (by simp)
    simp only [List.cons_append, pthL, pthP]
    rw [if_neg h1, pthL_stop s x r (i / 2) (fun z hz => hn z (by simp [hz])) h]
/-- The last row has one element. -/
theorem rowsF_last : ∀ (n : Nat) (row : List Int), row.length ≤ n → row ≠ [] → ∃ x ∈ rowsF n row, x.length = 1
  | 0, row, h, hn => absurd (List.length_eq_zero_iff.1 (by omega)) hn
  | n + 1, row, h, hn => by
    have h0 := List.length_pos_iff.2 hn
    unfold rowsF
    by_cases g : 1 < row.length
    · rw [if_pos g]
      obtain ⟨x, hx, h1⟩ := rowsF_last n (upR row) (by rw [upR_len]; omega) (by intro e; have := upR_len row; rw [e] at this; simp at this; omega)
      exact ⟨x, by simp [hx], h1⟩
    · rw [if_neg g, if_pos (by omega)]
      exact ⟨row, by simp, by omega⟩
theorem rowsT_last {row : List Int} (h : row ≠ []) : ∃ x ∈ rowsT row, x.length = 1 := rowsF_last _ _ (Nat.le_refl _) h
/-- How many rows there are. -/
theorem rowsF_len : ∀ (n : Nat) (row : List Int), (rowsF n row).length ≤ n
  | 0, _ => by simp [rowsF]
  | n + 1, row => by
    unfold rowsF
    have := rowsF_len n (upR row)
    split
    · simp; omega
    · split <;> simp
theorem pre_len {row : List Int} {pre r : List (List Int)} (h : rowsT row = pre ++ r) : pre.length ≤ row.length := by
  have h1 := rowsF_len row.length row
  rw [show rowsF row.length row = pre ++ r from h, List.length_append] at h1
  omega
/-- The path so far, in the caller's two variables. -/
def PathI (w : World) (i : Nat) (pre : List (List Int)) (b : Nat) (W : World) : Prop :=
  ((Boxed W w.heap.size 3 (.int .i64 (idxP pre i)) ∧ ∃ v, Boxed W (w.heap.size + 1) 22 v ∧ W.ownsRow (w.heap.size + 1) 3 1 v pre.length ((pthP pre i).map (Value.int .i64)) ∧ ∀ k, v.ownBlock = some k → k < b) ∧ Below w.heap.size w W) ∧ b ≤ W.heap.size ∧ w.heap.size + 1 < b ∧ ∀ x ∈ pre, x.length ≠ 1
theorem PathI.own (w : World) (i b B : Nat) (hB : w.heap.size ≤ B) : OwnFrom B (fun pre W => PathI w i pre b W) :=
  OwnFrom.and (OwnFrom.and (OwnFrom.and (Own.from (boxed_own w.heap.size 3 (fun pre : List (List Int) => Value.int .i64 (idxP pre i))) _) (Own.from (holdsRow_own (w.heap.size + 1) (w.heap.size + 1) 22 3 1 (fun pre : List (List Int) => pre.length) (fun pre => (pthP pre i).map (Value.int .i64)) (fun _ v => ∀ k, v.ownBlock = some k → k < b)) _)) (ownFrom_below (Nat.le_refl _) hB))
    (fun _ _ _ _ hs hg _ => ⟨Nat.le_trans hs.1 hg.size, hs.2⟩)
theorem bits_xor : ∀ j : Fin 1001, bits BinOp.xor IntKind.i64 ((j.val : Nat) : Int) 1 = ((sib j.val : Nat) : Int) := by decide +kernel
theorem xor_one {j : Nat} (h : j ≤ 1000) : bits BinOp.xor IntKind.i64 (j : Int) 1 = (sib j : Int) := bits_xor ⟨j, by omega⟩
theorem ints_grown {W W' : World} {g n c : Nat} {x : List Int} {row : Option Nat} (h : IntsAt W (.slice (some ⟨g, 0, none⟩) n c) x) (hg : W.grownBy W' row) (hne : row ≠ some g) : IntsAt W' (.slice (some ⟨g, 0, none⟩) n c) x := by
  obtain ⟨a, cap, hv, hm, hc⟩ := h
  refine ⟨a, cap, hv, hm, fun hl => ?_⟩
  obtain ⟨b1, off, ha, hx⟩ := hc hl
  have hga : some (⟨g, 0, none⟩ : Addr) = a := by simp at hv; exact hv.1
  obtain rfl : b1 = g := by rw [ha] at hga; simp at hga; exact hga.1.symm
  refine ⟨b1, off, ha, fun i y h => ?_⟩
  have h1 := hx i y h
  obtain ⟨o, ho, -⟩ := cells_of h1
  exact (World.cell?_of_block (a := ⟨b1, off + i, none⟩) (hg.block b1 (Array.getElem?_eq_some_iff.1 ho).1 (fun e => hne e.symm))).trans h1
theorem row_bound {w : World} {base e s : Nat} {v : Value} {n k : Nat} {xs : List Value} (h : w.ownsRow base e s v n xs) (hk : v.ownBlock = some k) : k < w.heap.size := by
  rcases h.2 with ⟨h1, -⟩ | ⟨g, cap, cur, h1, -, h3, -⟩
  · rw [h1] at hk; cases hk
  · rw [h1] at hk; cases hk; exact (Array.getElem?_eq_some_iff.1 h3).1
end Go.Proofs.Yteodafhgfcbdpaa
