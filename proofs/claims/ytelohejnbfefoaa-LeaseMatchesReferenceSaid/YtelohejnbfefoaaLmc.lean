/- Leases: the reference's 'Elect'. -/
import Derived.Test.YtelohejnbfefoaaLmb
import Derived.Test.YtelohejnbfefoaaIv
namespace Go.Proofs.Ytelohejnbfefoaa
open Go.RowKit

/-- One value set. -/
def upvR (vs : Nat → Value) (i : Nat) (x : Value) : Nat → Value := fun k => cond (k == i) x (vs k)
theorem up_valR {vs : Nat → Value} {bf : Nat → Bool} {val : List Value} (i : Nat) (h : ∀ k, bf k = true → vs k = val.getD k undef) {x : Value} (hx : val.getD i undef = x) : ∀ k, up bf i k = true → upvR vs i x k = val.getD k undef := fun k hk => by
  unfold upvR
  by_cases e : k = i
  · subst e; simp only [beq_self_eq_true, cond_true]; exact hx.symm
  · have : (k == i) = false := by simpa using e
    rw [this]
    exact h k (by unfold up at hk; rwa [if_neg e] at hk)
theorem up_v2 {vs : Nat → Value} {bf : Nat → Bool} {val : List Value} (i : Nat) (h : ∀ k, k ≠ 15 → k ≠ 17 → bf k = true → vs k = val.getD k undef) {x : Value} (hx : val.getD i undef = x) : ∀ k, k ≠ 15 → k ≠ 17 → up bf i k = true → upvR vs i x k = val.getD k undef := fun k k1 k2 hk => by
  unfold upvR
  by_cases e : k = i
  · subst e; simp only [beq_self_eq_true, cond_true]; exact hx.symm
  · have : (k == i) = false := by simpa using e
    rw [this]
    exact h k k1 k2 (by unfold up at hk; rwa [if_neg e] at hk)
/-- A block holds voters, or truth values. -/
structure VosOn (w : World) (g : Nat) (l : List Vo) : Prop where
  lt : g < w.heap.size
  c : ∀ i, i < l.length → (w.cell? ⟨g, i * 3, none⟩ = some (.int .i64 (l.getD i zV).f) ∧ w.cell? ⟨g, i * 3 + 1, none⟩ = some (.int .i64 (l.getD i zV).h) ∧ w.cell? ⟨g, i * 3 + 2, none⟩ = some (.int .i64 (l.getD i zV).u))
  f : ∀ j, w.frozen? ⟨g, j, none⟩ = false
structure BosOn (w : World) (g : Nat) (l : List Bool) : Prop where
  lt : g < w.heap.size
  c : ∀ i, i < l.length → w.cell? ⟨g, i, none⟩ = some (.bool (l.getD i false))
  f : ∀ j, w.frozen? ⟨g, j, none⟩ = false
theorem VosOn.step {w w1 : World} {g : Nat} {l : List Vo} (h : VosOn w g l) (hb : Below w.heap.size w w1) : VosOn w1 g l :=
  ⟨Nat.lt_of_lt_of_le h.lt hb.size, fun i hi => ⟨keep1 hb (h.c i hi).1, keep1 hb (h.c i hi).2.1, keep1 hb (h.c i hi).2.2⟩, fun j => (hb.frozen (p := ⟨g, j, none⟩) h.lt).trans (h.f j)⟩
theorem BosOn.step {w w1 : World} {g : Nat} {l : List Bool} (h : BosOn w g l) (hb : Below w.heap.size w w1) : BosOn w1 g l :=
  ⟨Nat.lt_of_lt_of_le h.lt hb.size, fun i hi => keep1 hb (h.c i hi), fun j => (hb.frozen (p := ⟨g, j, none⟩) h.lt).trans (h.f j)⟩
theorem cell_other {w : World} {g b : Nat} (hne : g ≠ b) (j i : Nat) (v : Value) : (w.setCell ⟨b, j, none⟩ v).cell? ⟨g, i, none⟩ = w.cell? ⟨g, i, none⟩ := World.cell?_of_block (a := ⟨g, i, none⟩) (Below.heap_setCell w ⟨b, j, none⟩ v g hne)
theorem cell_same {w : World} {g : Nat} (i j : Nat) (hne : i ≠ j) (v : Value) : (w.setCell ⟨g, j, none⟩ v).cell? ⟨g, i, none⟩ = w.cell? ⟨g, i, none⟩ := World.cell?_setCell_other _ _ _ _ (by intro h2; injection h2 with _ h3; exact hne h3.symm)
theorem VosOn.other {w : World} {g b : Nat} {l : List Vo} (h : VosOn w g l) (hne : g ≠ b) (j : Nat) (v : Value) : VosOn (w.setCell ⟨b, j, none⟩ v) g l :=
  ⟨by simpa using h.lt, fun i hi => by rw [cell_other hne, cell_other hne, cell_other hne]; exact h.c i hi, fun i => by rw [World.frozen?_setCell]; exact h.f i⟩
theorem BosOn.other {w : World} {g b : Nat} {l : List Bool} (h : BosOn w g l) (hne : g ≠ b) (j : Nat) (v : Value) : BosOn (w.setCell ⟨b, j, none⟩ v) g l :=
  ⟨by simpa using h.lt, fun i hi => by rw [cell_other hne]; exact h.c i hi, fun i => by rw [World.frozen?_setCell]; exact h.f i⟩
theorem set_get {α : Type} {l : List α} {k i : Nat} {x z : α} (hk : k < l.length) : (l.set k x).getD i z = if i = k then x else l.getD i z := by
  by_cases e : i = k
  · subst e; simp [hk]
  · rw [if_neg e]; simp [List.getElem?_set, Ne.symm e]
theorem VosOn.set {w : World} {g : Nat} {l : List Vo} (h : VosOn w g l) (k : Nat) (hk : k < l.length) (x : Vo) : VosOn (((w.setCell ⟨g, k * 3, none⟩ (.int .i64 x.f)).setCell ⟨g, k * 3 + 1, none⟩ (.int .i64 x.h)).setCell ⟨g, k * 3 + 2, none⟩ (.int .i64 x.u)) g (l.set k x) := by
  refine ⟨by simpa using h.lt, fun i hi => ?_, fun j => by rw [World.frozen?_setCell, World.frozen?_setCell, World.frozen?_setCell]; exact h.f j⟩
  have hi : i < l.length := by simpa using hi
  rw [set_get hk]
  by_cases e : i = k
  · subst e
    rw [if_pos rfl]
    obtain ⟨c0, c1, c2⟩ := h.c i hk
    refine ⟨?_, ?_, ?_⟩
    · rw [cell_same _ _ (by omega), cell_same _ _ (by omega), World.cell?_setCell_same _ _ _ c0]
    · rw [cell_same _ _ (by omega), World.cell?_setCell_same _ _ _ (by rw [cell_same _ _ (by omega)]; exact c1)]
    · rw [World.cell?_setCell_same _ _ _ (by rw [cell_same _ _ (by omega), cell_same _ _ (by omega)]; exact c2)]
  · rw [if_neg e]
    refine ⟨?_, ?_, ?_⟩ <;> rw [cell_same _ _ (by omega), cell_same _ _ (by omega), cell_same _ _ (by omega)]
    · exact (h.c i hi).1
    · exact (h.c i hi).2.1
    · exact (h.c i hi).2.2
theorem BosOn.set {w : World} {g : Nat} {l : List Bool} (h : BosOn w g l) (k : Nat) (hk : k < l.length) (x : Bool) : BosOn (w.setCell ⟨g, k, none⟩ (.bool x)) g (l.set k x) := by
  refine ⟨by simpa using h.lt, fun i hi => ?_, fun j => by rw [World.frozen?_setCell]; exact h.f j⟩
  have hi : i < l.length := by simpa using hi
  rw [set_get hk]
  by_cases e : i = k
  · subst e
    rw [if_pos rfl, World.cell?_setCell_same _ _ _ (h.c i hk)]
  · rw [if_neg e, cell_same _ _ (by omega)]
    exact h.c i hi
theorem VosOn.at {w : World} {g c : Nat} {l : List Vo} (h : VosOn w g l) (n : Nat) (hn : n = l.length) (hm : l.length ≤ 1000) : VosAt w (.slice (some ⟨g, 0, none⟩) n c) l := by
  subst hn
  refine ⟨_, c, rfl, by unfold maxLen; omega, fun _ => ⟨g, 0, rfl, fun i x hi => ?_⟩⟩
  have hlt := (List.getElem?_eq_some_iff.1 hi).1
  have hx : l.getD i zV = x := by rw [List.getD_eq_getElem?_getD, hi]; rfl
  have := h.c i hlt
  rw [hx] at this
  simpa using this
theorem BosOn.at {w : World} {g c : Nat} {l : List Bool} (h : BosOn w g l) (n : Nat) (hn : n = l.length) (hm : l.length ≤ 1000) : BosAt w (.slice (some ⟨g, 0, none⟩) n c) l := by
  subst hn
  refine ⟨_, c, rfl, by unfold maxLen; omega, fun _ => ⟨g, 0, rfl, fun i x hi => ?_⟩⟩
  have hlt := (List.getElem?_eq_some_iff.1 hi).1
  have hx : l.getD i false = x := by rw [List.getD_eq_getElem?_getD, hi]; rfl
  have := h.c i hlt
  rw [hx] at this
  simpa using this
theorem vosOn_row {w : World} {base g cap n : Nat} {l : List Vo} (hn : n = l.length) (h : w.ownsRow base 25 3 (.slice (some ⟨g, 0, none⟩) n cap) n (vcs l)) : VosOn w g l := by
  subst hn
  refine ⟨(h.lt g rfl).2, fun i hi => ?_, fun j => h.frozenAt j⟩
  have hg := fun j hj => vcs_get l i _ (vo_get hi) j hj
  have hc := fun j (hj : j < 3) => (h.cellAt (i * 3 + j) (by omega)).trans (hg j hj)
  exact ⟨hc 0 (by omega), hc 1 (by omega), hc 2 (by omega)⟩
/-- The voters after the first k have been asked; who has agreed. -/
def eL (L : List Vo) (A : List Bool) (h f u now : Int) (k : Nat) : List Vo := (List.range L.length).map (elV L A h f u now k)
def aL (L : List Vo) (A : List Bool) (h f u now : Int) (k : Nat) : List Bool := (List.range L.length).map (fun j => decide (j < k) && (A.getD j false && voB (L.getD j zV).f (L.getD j zV).h (L.getD j zV).u h f u now))
theorem list_map_ext {α : Type} {n : Nat} {f g : Nat → α} (h : ∀ j, j < n → f j = g j) : (List.range n).map f = (List.range n).map g := List.map_congr_left fun j hj => h j (List.mem_range.1 hj)
theorem map_set {α : Type} {n k : Nat} {f : Nat → α} (x : α) : ((List.range n).map f).set k x = (List.range n).map (fun j => if j = k then x else f j) := by
  apply List.ext_getElem?
  intro i
  rw [List.getElem?_set, List.getElem?_map, List.getElem?_map]
  by_cases hi : i < n
  · by_cases e : k = i
    · subst e; simp [hi]
    · rw [if_neg e, List.getElem?_range hi]; simp [Ne.symm e]
  · by_cases e : k = i
    · subst e; simp [hi]
    · rw [if_neg e]; simp [hi]
theorem eL_no {L : List Vo} {A : List Bool} {h f u now : Int} {k : Nat} (hA : A.getD k false = false) : eL L A h f u now (k + 1) = eL L A h f u now k := list_map_ext fun j _ => by
  by_cases e : j = k
  · subst e; rw [elV_no hA, elV_no hA]
  · exact elV_ne e
theorem eL_yes {L : List Vo} {A : List Bool} {h f u now : Int} {k : Nat} (hA : A.getD k false = true) : eL L A h f u now (k + 1) = (eL L A h f u now k).set k (votV h f u now (L.getD k zV)) := by
  unfold eL
  rw [map_set]
  exact list_map_ext fun j _ => by
    by_cases e : j = k
    · subst e; rw [if_pos rfl, elV_yes hA]
    · rw [if_neg e, elV_ne e]
theorem aL_no {L : List Vo} {A : List Bool} {h f u now : Int} {k : Nat} (hA : A.getD k false = false) : aL L A h f u now (k + 1) = aL L A h f u now k := list_map_ext fun j _ => by
  by_cases e : j = k
  · subst e; rw [hA]; simp
  · rw [show decide (j < k + 1) = decide (j < k) from decide_eq_decide.2 (by omega)]
theorem aL_yes {L : List Vo} {A : List Bool} {h f u now : Int} {k : Nat} (hA : A.getD k false = true) : aL L A h f u now (k + 1) = (aL L A h f u now k).set k (voB (L.getD k zV).f (L.getD k zV).h (L.getD k zV).u h f u now) := by
  unfold aL
  rw [map_set]
  exact list_map_ext fun j _ => by
    by_cases e : j = k
    · subst e; rw [if_pos rfl, hA]; simp
    · rw [if_neg e, show decide (j < k + 1) = decide (j < k) from decide_eq_decide.2 (by omega)]
theorem eL_zero (L : List Vo) (A : List Bool) (h f u now : Int) : eL L A h f u now 0 = L := by
  apply List.ext_getElem (by simp [eL])
  intro i h1 h2
  simp only [eL, List.getElem_map, List.getElem_range]
  rw [elV_ge (Nat.zero_le _)]
  simp [h2]
theorem aL_zero (L : List Vo) (A : List Bool) (h f u now : Int) : aL L A h f u now 0 = List.replicate L.length false := by
  apply List.ext_getElem (by simp [aL])
  intro i h1 h2
  simp [aL]
theorem eL_len (L : List Vo) (A : List Bool) (h f u now : Int) (k : Nat) : (eL L A h f u now k).length = L.length := by simp [eL]
theorem aL_len (L : List Vo) (A : List Bool) (h f u now : Int) (k : Nat) : (aL L A h f u now k).length = L.length := by simp [aL]
theorem aL_count {L : List Vo} {A : List Bool} {h f u now : Int} (ht : tmB now = true) : trN (aL L A h f u now L.length) L.length = agreed L A h f u now := by
  rw [agreed_sN]
  have : ∀ k, k ≤ L.length → trN (aL L A h f u now L.length) k = sN (agV h f u now) L A k := by
    intro k
    induction k with
    | zero => intro _; rfl
    | succ k ih =>
      intro hk
      rw [trN, sN, ih (by omega)]
      have e : (aL L A h f u now L.length).getD k false = (A.getD k false && agV h f u now (L.getD k zV)) := by
        unfold aL
        rw [List.getD_eq_getElem?_getD, List.getElem?_map, List.getElem?_range (by omega)]
        simp only [Option.map_some, Option.getD_some]
        rw [voB_ag ht, show decide (k < L.length) = true by simp; omega]
        rfl
      rw [e]
  exact this _ (Nat.le_refl _)
theorem rvoteV (h f u now : Int) (x : Vo) (w : World) : Calls Try.prog 15 #[.agg #[.int .i64 x.f, .int .i64 x.h, .int .i64 x.u], .agg #[.int .i64 h, .int .i64 f, .int .i64 u], .int .i64 now] w fun e w' => e = .returned (.tuple #[.agg #[.int .i64 (votV h f u now x).f, .int .i64 (votV h f u now x).h, .int .i64 (votV h f u now x).u], .bool (voB x.f x.h x.u h f u now)]) ∧ Below w.heap.size w w' :=
  (rvote_any x.f x.h x.u h f u now w).mono fun e w' hh => ⟨by rw [hh.1]; unfold votedV votV; split <;> rfl, hh.2⟩
theorem hmkb2 : ∀ w, (Instr.makeSlice 23 (.int .i64 2) (.int .i64 2)).run Try.prog w = .ok (.slice (some ⟨w.heap.size, 0, none⟩) 2 2) (w.alloc (.cells #[.bool false, .bool false] 4)) := fun _ => by kernel_rfl
theorem hmkb3 : ∀ w, (Instr.makeSlice 23 (.int .i64 3) (.int .i64 3)).run Try.prog w = .ok (.slice (some ⟨w.heap.size, 0, none⟩) 3 3) (w.alloc (.cells #[.bool false, .bool false, .bool false] 4)) := fun _ => by kernel_rfl
theorem hmkbn (n : Nat) (hn : n = 2 ∨ n = 3) : ∀ w, (Instr.makeSlice 23 (.int .i64 (n : Int)) (.int .i64 (n : Int))).run Try.prog w = .ok (.slice (some ⟨w.heap.size, 0, none⟩) n n) (w.alloc (.cells (Array.replicate n (.bool false)) 4)) := by
  rcases hn with rfl | rfl
  · exact hmkb2
  · exact hmkb3
theorem bosOn_new (w : World) (n : Nat) : BosOn (w.alloc (.cells (Array.replicate n (.bool false)) 4)) w.heap.size (List.replicate n false) := by
  refine ⟨by simp, fun i hi => ?_, fun j => frozen_new w _ 4 _ rfl j⟩
  have hi : i < n := by simpa using hi
  rw [cell_new' w _ 4 _ rfl]
  simp [hi]
theorem vcs_len : ∀ L : List Vo, (vcs L).length = L.length * 3
  | [] => rfl
  | x :: l => by rw [show vcs (x :: l) = x.cells ++ vcs l by simp [vcs], List.length_append, vcs_len l, List.length_cons]; simp only [Vo.cells, List.length_cons, List.length_nil]; omega
theorem row_pos {w : World} {base : Nat} {e : TypeId} {size : Nat} {v : Value} {n : Nat} {xs : List Value} (h : w.ownsRow base e size v n xs) (hn : 0 < n) : ∃ g cap, v = .slice (some ⟨g, 0, none⟩) n cap := by
  rcases h.2 with ⟨_, h0⟩ | ⟨g, cap, _, rfl, _⟩
  · omega
  · exact ⟨g, cap, rfl⟩
theorem Cs.grown {w w' : World} {n : Nat} {vs : Array Value} {row : Option Nat} (h : Cs w n vs) (hg : w.grownBy w' row) (hne : row ≠ some n) : Cs w' n vs := by
  have hb := hg.block n h.2.2 (fun e => hne e.symm)
  exact ⟨fun i hi => (World.cell?_of_block (a := ⟨n, i, none⟩) hb).trans (h.1 i hi), fun i hi => (World.frozen?_of_block (a := ⟨n, i, none⟩) hb).trans (h.2.1 i hi), Nat.lt_of_lt_of_le h.2.2 hg.size⟩
theorem row_zero (w : World) (base : Nat) (hb : base ≤ w.heap.size) : (w.alloc (.cells #[] 25)).ownsRow base 25 3 (.slice (some ⟨w.heap.size, 0, none⟩) 0 0) 0 [] :=
  ⟨rfl, .inr ⟨w.heap.size, 0, _, rfl, hb, heap_alloc_new _ _, by omega, by unfold maxLen; omega, rfl, rfl⟩⟩
set_option maxRecDepth 100000 in
set_option maxHeartbeats 4000000 in
theorem relect_no (v va : Value) (L : List Vo) (A : List Bool) (hub now len h f u er : Int) (w : World) (hl : VosAt w v L) (ha : BosAt w va A) (hp : PW L A hub now len h f u er) (he : er ≠ 0) :
    Calls Try.prog 11 #[v, va, .int .i64 hub, .int .i64 now, .int .i64 len] w (EPost [] 0 0 0 er w) := by
  have hla := Lib.hid hl
  have haa := Lib.hid ha
  obtain ⟨a, cap, rfl, hm, hcl⟩ := hl
  obtain ⟨aa, capa, rfl, hma, -⟩ := ha
  unfold maxLen at hm hma
  have HO := Lib.hid (Cs.new w w.heap.size #[.int .i64 0, .int .i64 0, .int .i64 0] 27 rfl)
  have HP := Lib.hid (rpropose_any hp (.slice a L.length cap) (.slice aa A.length capa) _ (hla.out.step (al w (.cells #[.int .i64 0, .int .i64 0, .int .i64 0] 27))) (haa.out.step (al w _)))
  have q : (er != 0) = true := by simpa using he
  have q2 : (er == 0) = false := by simpa using he
  clear hp he hcl
  go_enter Try.func11, Try.ntmps11
  go_wp2_with fail
  refine HP.out.mono ?_
  rintro e w1 ⟨rfl, b1⟩
  have HOw := Lib.hid (HO.out.step b1)
  have HBw := Lib.hid (keep2 b1 (al w (.cells #[.int .i64 0, .int .i64 0, .int .i64 0] 27)))
  have hz0 : w.heap.size + 1 ≤ w1.heap.size := by have := b1.size; simpa using this
  clear b1
  have x0 := HOw.out.c 0 rfl
  have x1 := HOw.out.c 1 rfl
  have x2 := HOw.out.c 2 rfl
  have z0 := HOw.out.f 0 (by simp)
  have z1 := HOw.out.f 1 (by simp)
  have z2 := HOw.out.f 2 (by simp)
  have hz1 := HOw.out.2.2
  go_wp2
  exact bodyPost_ret (v := .tuple #[.slice none 0 0, .agg #[.int .i64 0, .int .i64 0, .int .i64 0], .int .i64 er]) (by simp [results, Try.results11, go_sem, x0, x1, x2, hz1]) rfl (EPost.mk (vos_nil _) (by repeat (first | with_reducible exact HBw.out | with_reducible exact Below.refl _ _ | ((with_reducible refine Below.setCell ?_ ?_ _); rotate_left; focus (first | (simp; done) | (simp; omega) | omega)) | ((with_reducible refine Below.alloc ?_ ?_ _); rotate_left; focus (first | (simp; done) | (simp; omega) | omega)) | with_reducible refine Below.trans ?_ (below_drewN' _ _ _) | with_reducible refine Below.trans ?_ (below_drew _ _))))
set_option maxRecDepth 100000 in
set_option maxHeartbeats 16000000 in
theorem relect_few (v va : Value) (L : List Vo) (A : List Bool) (hub now len h f u : Int) (w : World) (hl : VosAt w v L) (ha : BosAt w va A) (hp : PW L A hub now len h f u 0) (hg : ¬ L.length < 2 * agreed L A h f u now) :
    Calls Try.prog 11 #[v, va, .int .i64 hub, .int .i64 now, .int .i64 len] w (EPost (elL L A h f u now) 0 0 0 22 w) := by
  have hla := Lib.hid hl
  have haa := Lib.hid ha
  obtain ⟨a, cap, rfl, hm, hcl⟩ := hl
  obtain ⟨aa, capa, rfl, hma, -⟩ := ha
  unfold maxLen at hm hma
  have HO := Lib.hid (Cs.new w w.heap.size #[.int .i64 0, .int .i64 0, .int .i64 0] 27 rfl)
  have HP := Lib.hid (rpropose_any hp (.slice a L.length cap) (.slice aa A.length capa) _ (hla.out.step (al w (.cells #[.int .i64 0, .int .i64 0, .int .i64 0] 27))) (haa.out.step (al w _)))
  obtain ⟨c0, c1, -, c3, -⟩ := arg_all (pw_ok hp)
  obtain ⟨c2, c4⟩ := inr_iff.1 c0
  have HTM := Lib.hid c3
  have HAL := Lib.hid (show A.length = L.length by omega)
  have hn23 : L.length = 2 ∨ L.length = 3 := by omega
  have hmk := hmkbn L.length hn23
  have h2 : 2 ≤ L.length := by omega
  have h3 : L.length ≤ 3 := by omega
  obtain ⟨b, off, rfl, hcs⟩ := hcl (by intro h; rw [h] at h2; simp at h2)
  have HCS := Lib.hid hcs
  have HG := Lib.hid hg
  clear hp hg c0 c1 c2 c3 c4 hn23 hcl hcs
  obtain ⟨i0, hi, hz0', hz1, hz2⟩ := info_parts info25
  go_enter Try.func11, Try.ntmps11
  go_wp2_with fail
  refine HP.out.mono ?_
  rintro e w1 ⟨rfl, b1⟩
  have HOw := Lib.hid (HO.out.step b1)
  have HBw := Lib.hid (keep2 b1 (al w (.cells #[.int .i64 0, .int .i64 0, .int .i64 0] 27)))
  have hz0 : w.heap.size + 1 ≤ w1.heap.size := by have := b1.size; simpa using this
  clear b1
  have HX1 := Lib.hid (Cs.new w1 w1.heap.size #[.int .i64 h, .int .i64 f, .int .i64 u] 27 rfl)
  have HO1 := Lib.hid (HOw.out.alloc (.cells #[.int .i64 h, .int .i64 f, .int .i64 u] 27))
  have HB1 := Lib.hid (HBw.out.alloc HBw.out.size (.cells #[.int .i64 h, .int .i64 f, .int .i64 u] 27))
  have HSR := Lib.hid (vcs_at (w := (w1.alloc (.cells #[.int .i64 h, .int .i64 f, .int .i64 u] 27)).alloc (.cells #[] 25)) (fun i x hx => ⟨keep1 (al _ _) (keep1 HB1.out (HCS.out i x hx).1), keep1 (al _ _) (keep1 HB1.out (HCS.out i x hx).2.1), keep1 (al _ _) (keep1 HB1.out (HCS.out i x hx).2.2)⟩))
  have HVL := Lib.hid (vcs_len L)
  have hbs := HBw.out.size
  have HRZ := Lib.hid (row_zero (w1.alloc (.cells #[.int .i64 h, .int .i64 f, .int .i64 u] 27)) (w1.heap.size + 1) (by simp))
  rw [show (w1.alloc (.cells #[.int .i64 h, .int .i64 f, .int .i64 u] 27)).heap.size = w1.heap.size + 1 by simp] at HRZ
  go_wp2_with (at_builtin; refine wpList_append_own _ rfl _ _ 22 rfl (w1.heap.size + 1) 25 i0 _ 3 24 Try.underlying22 hi hz0' hz1 hz2 rfl (by decide) _ _ _ rfl HRZ.out ⟨b, off, none⟩ L.length cap (vcs L) rfl HVL.out HSR.out (vcs_one' L) (by unfold maxLen; omega) (by omega) (by simp) ?_; intro v' w2 hown hgrow _; have HR2 := Lib.hid hown; have HG2 := Lib.hid (show World.grownBy ((w1.alloc (.cells #[.int .i64 h, .int .i64 f, .int .i64 u] 27)).alloc (.cells #[] 25)) w2 (some (w1.heap.size + 1)) from hgrow); clear hown hgrow)
  obtain ⟨g1, cg, rfl⟩ := row_pos HR2.out (by omega)
  rw [Nat.zero_add]
  have HE0 := Lib.hid (vosOn_row (show 0 + L.length = L.length by omega) HR2.out)
  have HX2 := Lib.hid ((HX1.out.alloc (.cells #[] 25)).grown HG2.out (by simp))
  have HO2 := Lib.hid ((HO1.out.alloc (.cells #[] 25)).grown HG2.out (by simp; omega))
  have HB2 := Lib.hid ((HB1.out.alloc (by simp; omega) (.cells #[] 25)).grown HG2.out (by simp; omega) (fun j ej => by simp at ej; omega))
  obtain ⟨gg1, gg2⟩ := HR2.out.lt g1 rfl
  have hw2 := HB2.out.size
  have HAG0 := Lib.hid (bosOn_new w2 L.length)
  have HX3 := Lib.hid (HX2.out.alloc (.cells (Array.replicate L.length (.bool false)) 4))
  have HO3 := Lib.hid (HO2.out.alloc (.cells (Array.replicate L.length (.bool false)) 4))
  have HE3 := Lib.hid (HE0.out.step (al w2 (.cells (Array.replicate L.length (.bool false)) 4)))
  have HB3 := Lib.hid (HB2.out.alloc hw2 (.cells (Array.replicate L.length (.bool false)) 4))
  obtain ⟨gx, hgx⟩ : ∃ gx, w1.heap.size = gx := ⟨_, rfl⟩
  obtain ⟨go, hgo⟩ : ∃ go, w.heap.size = go := ⟨_, rfl⟩
  obtain ⟨g2, hg2⟩ : ∃ g2, w2.heap.size = g2 := ⟨_, rfl⟩
  have n1 : gx ≠ g1 := by omega
  have n2 : gx ≠ g2 := by have := HX2.out.2.2; omega
  have n3 : g2 ≠ g1 := by omega
  have n4 : g1 ≠ g2 := by omega
  have n5 : w.heap.size ≤ g1 := by omega
  have n6 : w.heap.size ≤ g2 := by omega
  have n7 : go ≠ g1 := by omega
  have n8 : go ≠ g2 := by have := HO2.out.2.2; omega
  rw [hgx] at HX3
  rw [hgo] at HO3
  rw [hg2] at HAG0
  rw [hgx, hg2]
  have HGO := Lib.hid hgo
  clear HX1 HO1 HB1 HSR HVL HRZ HR2 HG2 HE0 HX2 HO2 HB2 gg1 gg2 hw2 hgx hg2 hbs hz0 HBw HOw hgo
  go_loopw [17] (fun i wr => ∃ k : Nat, k ≤ L.length ∧ i = .int .i64 k ∧ Hid (Cs wr gx #[.int .i64 h, .int .i64 f, .int .i64 u]) ∧ Hid (Cs wr go #[.int .i64 0, .int .i64 0, .int .i64 0]) ∧ Hid (VosOn wr g1 (eL L A h f u now k)) ∧ Hid (BosOn wr g2 (aL L A h f u now k)) ∧ Hid (Below w.heap.size w wr)) (fun i _ => L.length - (intOf i).toNat)
  case atStart => exact ⟨0, by omega, rfl, HX3, HO3, by rw [eL_zero]; exact HE3, by rw [aL_zero]; exact HAG0, HB3⟩
  case round =>
    obtain ⟨k, hk, rfl, HX, HO, HE, HAG, HB⟩ := hrel
    by_cases hlt : k < L.length
    · obtain ⟨a3, cap3, hvb, -, hct⟩ := haa.out.step HB.out
      obtain ⟨rfl, -, rfl⟩ : aa = a3 ∧ A.length = A.length ∧ capa = cap3 := by simpa using hvb
      have hlta : k < A.length := by rw [HAL.out]; exact hlt
      obtain ⟨b5, off2, rfl, hct2⟩ := hct (by intro h; rw [h] at hlta; simp at hlta)
      have y0 := hct2 k _ (bo_get hlta)
      clear hvb hct hct2
      cases hA : A.getD k false
      · have HEY := Lib.hid (eL_no (L := L) (h := h) (f := f) (u := u) (now := now) hA)
        have HAY := Lib.hid (aL_no (L := L) (h := h) (f := f) (u := u) (now := now) hA)
        rw [hA] at y0
        clear hA
        go_wp2
        go_roundw
        case rel => exact ⟨k + 1, by omega, by go_num, HX, HO, by rw [HEY.out]; exact HE, by rw [HAY.out]; exact HAG, HB⟩
        case measure => simp [intOf]; omega
      · have HEY := Lib.hid (eL_yes (L := L) (h := h) (f := f) (u := u) (now := now) hA)
        have HAY := Lib.hid (aL_yes (L := L) (h := h) (f := f) (u := u) (now := now) hA)
        rw [hA] at y0
        clear hA
        obtain ⟨xw0, xw1, xw2⟩ := HCS.out k _ (vo_get hlt)
        generalize L.getD k zV = x at *
        go_upto_region 10 with fail
        clear y0
        obtain ⟨lit, hlit⟩ : ∃ lit : (Nat → Value) → Act, lit = fun vs => { tmps := #[Value.slice (some { block := b, off := off }) L.length cap, Value.slice (some { block := b5, off := off2 }) A.length capa, Value.int IntKind.i64 hub, Value.int IntKind.i64 now, Value.int IntKind.i64 len, undef, undef, undef, undef, undef, Value.slice none 0 0, Value.pointer (some { block := w.heap.size, off := 0 }), Value.int IntKind.i64 0, Value.pointer (some { block := gx, off := 0 }), Value.int IntKind.i64 0, Value.slice (some { block := g1, off := 0 }) L.length cg, Value.slice (some { block := g2, off := 0 }) L.length L.length, Value.int IntKind.i64 (k : Int), Value.tuple #[Value.agg #[Value.int IntKind.i64 h, Value.int IntKind.i64 f, Value.int IntKind.i64 u], Value.int IntKind.i64 0], Value.slice (some { block := b, off := off }) L.length cap, Value.slice (some { block := b5, off := off2 }) A.length capa, Value.int IntKind.i64 hub, Value.int IntKind.i64 now, Value.int IntKind.i64 len, Value.tuple #[Value.agg #[Value.int IntKind.i64 h, Value.int IntKind.i64 f, Value.int IntKind.i64 u], Value.int IntKind.i64 0], Value.agg #[Value.int IntKind.i64 h, Value.int IntKind.i64 f, Value.int IntKind.i64 u], Value.int IntKind.i64 0, Value.int IntKind.i64 0, Value.bool false, undef, undef, Value.slice (some { block := gx + 1, off := 0 }) 0 0, Value.slice (some { block := b, off := off }) L.length cap, Value.slice (some { block := g1, off := 0 }) L.length cg, Value.slice (some { block := b, off := off }) L.length cap, Value.int IntKind.i64 (L.length : Int), Value.slice (some { block := g2, off := 0 }) L.length L.length, Value.int IntKind.i64 (k : Int), Value.slice (some { block := b, off := off }) L.length cap, Value.int IntKind.i64 (L.length : Int), Value.bool true, u41, u42, Value.slice (some { block := b5, off := off2 }) A.length capa, Value.int IntKind.i64 (k : Int), Value.pointer (some { block := b5, off := off2 + k }), Value.bool true, vs 11, vs 0, vs 1, vs 2, vs 3, vs 4, vs 5, vs 6, vs 7, vs 8, vs 9, vs 10, vs 12, vs 13, vs 14, vs 16, undef, undef, undef, undef, undef, undef, undef, undef, undef, undef], defers := [] } := ⟨_, rfl⟩
        have HLIT := Lib.hid hlit
        clear hlit
        obtain ⟨val, hval⟩ : ∃ val : List Value, val = [.slice (some ⟨g1, 0, none⟩) L.length cg, .int .i64 k, .slice (some ⟨g2, 0, none⟩) L.length L.length, .int .i64 k, .slice (some ⟨b, off, none⟩) L.length cap, .int .i64 k, .pointer (some ⟨b, off + k * 3, none⟩), .agg #[.int .i64 x.f, .int .i64 x.h, .int .i64 x.u], .agg #[.int .i64 h, .int .i64 f, .int .i64 u], .int .i64 now, .tuple #[.agg #[.int .i64 (votV h f u now x).f, .int .i64 (votV h f u now x).h, .int .i64 (votV h f u now x).u], .bool (voB x.f x.h x.u h f u now)], .tuple #[.agg #[.int .i64 (votV h f u now x).f, .int .i64 (votV h f u now x).h, .int .i64 (votV h f u now x).u], .bool (voB x.f x.h x.u h f u now)], .agg #[.int .i64 (votV h f u now x).f, .int .i64 (votV h f u now x).h, .int .i64 (votV h f u now x).u], .bool (voB x.f x.h x.u h f u now), .pointer (some ⟨g1, k * 3, none⟩), undef, .pointer (some ⟨g2, k, none⟩), undef] := ⟨_, rfl⟩
        have E0 := Lib.hid (show val.getD 0 undef = .slice (some ⟨g1, 0, none⟩) L.length cg by rw [hval]; rfl)
        have E1 := Lib.hid (show val.getD 1 undef = .int .i64 k by rw [hval]; rfl)
        have E2 := Lib.hid (show val.getD 2 undef = .slice (some ⟨g2, 0, none⟩) L.length L.length by rw [hval]; rfl)
        have E3 := Lib.hid (show val.getD 3 undef = .int .i64 k by rw [hval]; rfl)
        have E4 := Lib.hid (show val.getD 4 undef = .slice (some ⟨b, off, none⟩) L.length cap by rw [hval]; rfl)
        have E5 := Lib.hid (show val.getD 5 undef = .int .i64 k by rw [hval]; rfl)
        have E6 := Lib.hid (show val.getD 6 undef = .pointer (some ⟨b, off + k * 3, none⟩) by rw [hval]; rfl)
        have E7 := Lib.hid (show val.getD 7 undef = .agg #[.int .i64 x.f, .int .i64 x.h, .int .i64 x.u] by rw [hval]; rfl)
        have E8 := Lib.hid (show val.getD 8 undef = .agg #[.int .i64 h, .int .i64 f, .int .i64 u] by rw [hval]; rfl)
        have E9 := Lib.hid (show val.getD 9 undef = .int .i64 now by rw [hval]; rfl)
        have E10 := Lib.hid (show val.getD 10 undef = .tuple #[.agg #[.int .i64 (votV h f u now x).f, .int .i64 (votV h f u now x).h, .int .i64 (votV h f u now x).u], .bool (voB x.f x.h x.u h f u now)] by rw [hval]; rfl)
        have E11 := Lib.hid (show val.getD 11 undef = .tuple #[.agg #[.int .i64 (votV h f u now x).f, .int .i64 (votV h f u now x).h, .int .i64 (votV h f u now x).u], .bool (voB x.f x.h x.u h f u now)] by rw [hval]; rfl)
        have E12 := Lib.hid (show val.getD 12 undef = .agg #[.int .i64 (votV h f u now x).f, .int .i64 (votV h f u now x).h, .int .i64 (votV h f u now x).u] by rw [hval]; rfl)
        have E13 := Lib.hid (show val.getD 13 undef = .bool (voB x.f x.h x.u h f u now) by rw [hval]; rfl)
        have E14 := Lib.hid (show val.getD 14 undef = .pointer (some ⟨g1, k * 3, none⟩) by rw [hval]; rfl)
        have E15 := Lib.hid (show val.getD 15 undef = undef by rw [hval]; rfl)
        have E16 := Lib.hid (show val.getD 16 undef = .pointer (some ⟨g2, k, none⟩) by rw [hval]; rfl)
        have E17 := Lib.hid (show val.getD 17 undef = undef by rw [hval]; rfl)
        clear hval
        refine region_inv (fun bf ac wv => ∃ vs : Nat → Value, ac = lit vs ∧ Cs wv gx #[.int .i64 h, .int .i64 f, .int .i64 u] ∧ Cs wv go #[.int .i64 0, .int .i64 0, .int .i64 0] ∧ VosOn wv g1 (cond (bf 15) (eL L A h f u now (k + 1)) (eL L A h f u now k)) ∧ BosOn wv g2 (cond (bf 17) (aL L A h f u now (k + 1)) (aL L A h f u now k)) ∧ Below w.heap.size w wv ∧ ∀ i, i ≠ 15 → i ≠ 17 → bf i = true → vs i = val.getD i undef) (by kernel_rfl) (by decide +kernel) ?_ ?_ ?_
        · exact ⟨fun i => ([u48, u49, u50, u51, u52, u53, u54, u55, u56, u57, u58, u47, u59, u60, u61, undef, u62, undef] : List Value).getD i undef, (by rw [HLIT.out]; rfl), HX.out.step (below_drew _ _), HO.out.step (below_drew _ _), HE.out.step (below_drew _ _), HAG.out.step (below_drew _ _), HB.out.trans (below_drew _ _), fun i _ _ h => by cases h⟩
        · refine ⟨?_, ?_, ?_, ?_, ?_, ?_, ?_, ?_, ?_, ?_, ?_, ?_, ?_, ?_, ?_, ?_, ?_, ?_, trivial⟩
          · intro bf ac wv hfb haf hJ K' hK
            obtain ⟨vs, rfl, hX, hO, hE, hA2, hM, hG⟩ := hJ
            replace hO := Lib.hid hO
            replace hK := Lib.hid hK
            replace hM := Lib.hid hM
            replace hX := Lib.hid hX
            replace hE := Lib.hid hE
            replace hA2 := Lib.hid hA2
            replace hG := Lib.hid hG
            clear haf
            replace hfb := Lib.hid hfb
            rw [HLIT.out]
            go_simp
            exact hK.out _ _ ⟨(upvR vs 0 (.slice (some ⟨g1, 0, none⟩) L.length cg)), (by rw [HLIT.out]; rfl), hX.out, hO.out, hE.out, hA2.out, hM.out, (up_v2 0 hG.out E0.out)⟩
          · intro bf ac wv hfb haf hJ K' hK
            obtain ⟨vs, rfl, hX, hO, hE, hA2, hM, hG⟩ := hJ
            replace hO := Lib.hid hO
            replace hK := Lib.hid hK
            replace hM := Lib.hid hM
            replace hX := Lib.hid hX
            replace hE := Lib.hid hE
            replace hA2 := Lib.hid hA2
            replace hG := Lib.hid hG
            clear haf
            replace hfb := Lib.hid hfb
            rw [HLIT.out]
            go_simp
            exact hK.out _ _ ⟨(upvR vs 1 (.int .i64 k)), (by rw [HLIT.out]; rfl), hX.out, hO.out, hE.out, hA2.out, hM.out, (up_v2 1 hG.out E1.out)⟩
          · intro bf ac wv hfb haf hJ K' hK
            obtain ⟨vs, rfl, hX, hO, hE, hA2, hM, hG⟩ := hJ
            replace hO := Lib.hid hO
            replace hK := Lib.hid hK
            replace hM := Lib.hid hM
            replace hX := Lib.hid hX
            replace hE := Lib.hid hE
            replace hA2 := Lib.hid hA2
            replace hG := Lib.hid hG
            clear haf
            replace hfb := Lib.hid hfb
            rw [HLIT.out]
            go_simp
            exact hK.out _ _ ⟨(upvR vs 2 (.slice (some ⟨g2, 0, none⟩) L.length L.length)), (by rw [HLIT.out]; rfl), hX.out, hO.out, hE.out, hA2.out, hM.out, (up_v2 2 hG.out E2.out)⟩
          · intro bf ac wv hfb haf hJ K' hK
            obtain ⟨vs, rfl, hX, hO, hE, hA2, hM, hG⟩ := hJ
            replace hO := Lib.hid hO
            replace hK := Lib.hid hK
            replace hM := Lib.hid hM
            replace hX := Lib.hid hX
            replace hE := Lib.hid hE
            replace hA2 := Lib.hid hA2
            replace hG := Lib.hid hG
            clear haf
            replace hfb := Lib.hid hfb
            rw [HLIT.out]
            go_simp
            exact hK.out _ _ ⟨(upvR vs 3 (.int .i64 k)), (by rw [HLIT.out]; rfl), hX.out, hO.out, hE.out, hA2.out, hM.out, (up_v2 3 hG.out E3.out)⟩
          · intro bf ac wv hfb haf hJ K' hK
            obtain ⟨vs, rfl, hX, hO, hE, hA2, hM, hG⟩ := hJ
            replace hO := Lib.hid hO
            replace hK := Lib.hid hK
            replace hM := Lib.hid hM
            replace hX := Lib.hid hX
            replace hE := Lib.hid hE
            replace hA2 := Lib.hid hA2
            replace hG := Lib.hid hG
            clear haf
            replace hfb := Lib.hid hfb
            rw [HLIT.out]
            go_simp
            exact hK.out _ _ ⟨(upvR vs 4 (.slice (some ⟨b, off, none⟩) L.length cap)), (by rw [HLIT.out]; rfl), hX.out, hO.out, hE.out, hA2.out, hM.out, (up_v2 4 hG.out E4.out)⟩
          · intro bf ac wv hfb haf hJ K' hK
            obtain ⟨vs, rfl, hX, hO, hE, hA2, hM, hG⟩ := hJ
            replace hO := Lib.hid hO
            replace hK := Lib.hid hK
            replace hM := Lib.hid hM
            replace hX := Lib.hid hX
            replace hE := Lib.hid hE
            replace hA2 := Lib.hid hA2
            replace hG := Lib.hid hG
            clear haf
            replace hfb := Lib.hid hfb
            rw [HLIT.out]
            go_simp
            exact hK.out _ _ ⟨(upvR vs 5 (.int .i64 k)), (by rw [HLIT.out]; rfl), hX.out, hO.out, hE.out, hA2.out, hM.out, (up_v2 5 hG.out E5.out)⟩
          · intro bf ac wv hfb haf hJ K' hK
            obtain ⟨vs, rfl, hX, hO, hE, hA2, hM, hG⟩ := hJ
            replace hO := Lib.hid hO
            replace hK := Lib.hid hK
            replace hM := Lib.hid hM
            replace hX := Lib.hid hX
            replace hE := Lib.hid hE
            replace hA2 := Lib.hid hA2
            simp [Region.binds] at haf
            have e4 := (hG 4 (by decide) (by decide) (by simp [haf])).trans E4.out
            have e5 := (hG 5 (by decide) (by decide) (by simp [haf])).trans E5.out
            replace hG := Lib.hid hG
            clear haf
            replace hfb := Lib.hid hfb
            rw [HLIT.out]
            go_simp
            exact hK.out _ _ ⟨(upvR vs 6 (.pointer (some ⟨b, off + k * 3, none⟩))), (by rw [HLIT.out]; simp only [upvR, e4, e5, Nat.reduceBEq, cond_true, cond_false]), hX.out, hO.out, hE.out, hA2.out, hM.out, (up_v2 6 hG.out E6.out)⟩
          · intro bf ac wv hfb haf hJ K' hK
            obtain ⟨vs, rfl, hX, hO, hE, hA2, hM, hG⟩ := hJ
            replace hO := Lib.hid hO
            replace hK := Lib.hid hK
            replace hM := Lib.hid hM
            replace hX := Lib.hid hX
            replace hE := Lib.hid hE
            replace hA2 := Lib.hid hA2
            simp [Region.binds] at haf
            have e6 := (hG 6 (by decide) (by decide) (by simp [haf])).trans E6.out
            replace hG := Lib.hid hG
            clear haf
            replace hfb := Lib.hid hfb
            rw [HLIT.out]
            have xl0 := keep1 hM.out xw0
            have xl1 := keep1 hM.out xw1
            have xl2 := keep1 hM.out xw2
            have xz := World.block_lt_of_cell? _ _ xl0
            have xz : b < wv.heap.size := xz
            go_simp
            exact hK.out _ _ ⟨(upvR vs 7 (.agg #[.int .i64 x.f, .int .i64 x.h, .int .i64 x.u])), (by rw [HLIT.out]; simp only [upvR, e6, Nat.reduceBEq, cond_true, cond_false]), hX.out, hO.out, hE.out, hA2.out, hM.out, (up_v2 7 hG.out E7.out)⟩
          · intro bf ac wv hfb haf hJ K' hK
            obtain ⟨vs, rfl, hX, hO, hE, hA2, hM, hG⟩ := hJ
            replace hO := Lib.hid hO
            replace hK := Lib.hid hK
            replace hM := Lib.hid hM
            replace hX := Lib.hid hX
            replace hE := Lib.hid hE
            replace hA2 := Lib.hid hA2
            replace hG := Lib.hid hG
            clear haf
            replace hfb := Lib.hid hfb
            rw [HLIT.out]
            have xx0 := hX.out.c 0 rfl
            have xx1 := hX.out.c 1 rfl
            have xx2 := hX.out.c 2 rfl
            have xz := hX.out.2.2
            go_simp
            exact hK.out _ _ ⟨(upvR vs 8 (.agg #[.int .i64 h, .int .i64 f, .int .i64 u])), (by rw [HLIT.out]; rfl), hX.out, hO.out, hE.out, hA2.out, hM.out, (up_v2 8 hG.out E8.out)⟩
          · intro bf ac wv hfb haf hJ K' hK
            obtain ⟨vs, rfl, hX, hO, hE, hA2, hM, hG⟩ := hJ
            replace hO := Lib.hid hO
            replace hK := Lib.hid hK
            replace hM := Lib.hid hM
            replace hX := Lib.hid hX
            replace hE := Lib.hid hE
            replace hA2 := Lib.hid hA2
            replace hG := Lib.hid hG
            clear haf
            replace hfb := Lib.hid hfb
            rw [HLIT.out]
            go_simp
            exact hK.out _ _ ⟨(upvR vs 9 (.int .i64 now)), (by rw [HLIT.out]; rfl), hX.out, hO.out, hE.out, hA2.out, hM.out, (up_v2 9 hG.out E9.out)⟩
          · intro bf ac wv hfb haf hJ K' hK
            obtain ⟨vs, rfl, hX, hO, hE, hA2, hM, hG⟩ := hJ
            replace hO := Lib.hid hO
            replace hK := Lib.hid hK
            replace hM := Lib.hid hM
            replace hX := Lib.hid hX
            replace hE := Lib.hid hE
            replace hA2 := Lib.hid hA2
            simp [Region.binds] at haf
            have e7 := (hG 7 (by decide) (by decide) (by simp [haf])).trans E7.out
            have e8 := (hG 8 (by decide) (by decide) (by simp [haf])).trans E8.out
            have e9 := (hG 9 (by decide) (by decide) (by simp [haf])).trans E9.out
            replace hG := Lib.hid hG
            clear haf
            replace hfb := Lib.hid hfb
            rw [HLIT.out]
            go_simp
            go_at_call 15
            refine (rvoteV h f u now x _).mono ?_
            rintro e w4 ⟨rfl, b4⟩
            exact hK.out _ _ ⟨(upvR vs 10 (.tuple #[.agg #[.int .i64 (votV h f u now x).f, .int .i64 (votV h f u now x).h, .int .i64 (votV h f u now x).u], .bool (voB x.f x.h x.u h f u now)])), (by rw [HLIT.out]; simp only [upvR, e7, e8, e9, Nat.reduceBEq, cond_true, cond_false]), (hX.out.step b4), (hO.out.step b4), (hE.out.step b4), (hA2.out.step b4), (keep2 b4 hM.out), (up_v2 10 hG.out E10.out)⟩
          · intro bf ac wv hfb haf hJ K' hK
            obtain ⟨vs, rfl, hX, hO, hE, hA2, hM, hG⟩ := hJ
            replace hO := Lib.hid hO
            replace hK := Lib.hid hK
            replace hM := Lib.hid hM
            replace hX := Lib.hid hX
            replace hE := Lib.hid hE
            replace hA2 := Lib.hid hA2
            simp [Region.binds] at haf
            have e10 := (hG 10 (by decide) (by decide) (by simp [haf])).trans E10.out
            replace hG := Lib.hid hG
            clear haf
            replace hfb := Lib.hid hfb
            rw [HLIT.out]
            go_simp
            exact hK.out _ _ ⟨(upvR vs 11 (.tuple #[.agg #[.int .i64 (votV h f u now x).f, .int .i64 (votV h f u now x).h, .int .i64 (votV h f u now x).u], .bool (voB x.f x.h x.u h f u now)])), (by rw [HLIT.out]; simp only [upvR, e10, Nat.reduceBEq, cond_true, cond_false]), hX.out, hO.out, hE.out, hA2.out, hM.out, (up_v2 11 hG.out E11.out)⟩
          · intro bf ac wv hfb haf hJ K' hK
            obtain ⟨vs, rfl, hX, hO, hE, hA2, hM, hG⟩ := hJ
            replace hO := Lib.hid hO
            replace hK := Lib.hid hK
            replace hM := Lib.hid hM
            replace hX := Lib.hid hX
            replace hE := Lib.hid hE
            replace hA2 := Lib.hid hA2
            simp [Region.binds] at haf
            have e11 := (hG 11 (by decide) (by decide) (by simp [haf])).trans E11.out
            replace hG := Lib.hid hG
            clear haf
            replace hfb := Lib.hid hfb
            rw [HLIT.out]
            go_simp
            exact hK.out _ _ ⟨(upvR vs 12 (.agg #[.int .i64 (votV h f u now x).f, .int .i64 (votV h f u now x).h, .int .i64 (votV h f u now x).u])), (by rw [HLIT.out]; simp only [upvR, e11, Nat.reduceBEq, cond_true, cond_false]), hX.out, hO.out, hE.out, hA2.out, hM.out, (up_v2 12 hG.out E12.out)⟩
          · intro bf ac wv hfb haf hJ K' hK
            obtain ⟨vs, rfl, hX, hO, hE, hA2, hM, hG⟩ := hJ
            replace hO := Lib.hid hO
            replace hK := Lib.hid hK
            replace hM := Lib.hid hM
            replace hX := Lib.hid hX
            replace hE := Lib.hid hE
            replace hA2 := Lib.hid hA2
            simp [Region.binds] at haf
            have e11 := (hG 11 (by decide) (by decide) (by simp [haf])).trans E11.out
            replace hG := Lib.hid hG
            clear haf
            replace hfb := Lib.hid hfb
            rw [HLIT.out]
            go_simp
            exact hK.out _ _ ⟨(upvR vs 13 (.bool (voB x.f x.h x.u h f u now))), (by rw [HLIT.out]; simp only [upvR, e11, Nat.reduceBEq, cond_true, cond_false]), hX.out, hO.out, hE.out, hA2.out, hM.out, (up_v2 13 hG.out E13.out)⟩
          · intro bf ac wv hfb haf hJ K' hK
            obtain ⟨vs, rfl, hX, hO, hE, hA2, hM, hG⟩ := hJ
            replace hO := Lib.hid hO
            replace hK := Lib.hid hK
            replace hM := Lib.hid hM
            replace hX := Lib.hid hX
            replace hE := Lib.hid hE
            replace hA2 := Lib.hid hA2
            simp [Region.binds] at haf
            have e0 := (hG 0 (by decide) (by decide) (by simp [haf])).trans E0.out
            have e1 := (hG 1 (by decide) (by decide) (by simp [haf])).trans E1.out
            replace hG := Lib.hid hG
            clear haf
            replace hfb := Lib.hid hfb
            rw [HLIT.out]
            go_simp
            exact hK.out _ _ ⟨(upvR vs 14 (.pointer (some ⟨g1, k * 3, none⟩))), (by rw [HLIT.out]; simp only [upvR, e0, e1, Nat.reduceBEq, cond_true, cond_false]), hX.out, hO.out, hE.out, hA2.out, hM.out, (up_v2 14 hG.out E14.out)⟩
          · intro bf ac wv hfb haf hJ K' hK
            obtain ⟨vs, rfl, hX, hO, hE, hA2, hM, hG⟩ := hJ
            replace hO := Lib.hid hO
            replace hK := Lib.hid hK
            replace hM := Lib.hid hM
            replace hX := Lib.hid hX
            replace hE := Lib.hid hE
            replace hA2 := Lib.hid hA2
            simp [Region.binds] at haf
            have e12 := (hG 12 (by decide) (by decide) (by simp [haf])).trans E12.out
            have e14 := (hG 14 (by decide) (by decide) (by simp [haf])).trans E14.out
            replace hG := Lib.hid hG
            clear haf
            replace hfb := Lib.hid hfb
            rw [HLIT.out]
            have hE0 := hE.out
            rw [hfb.out] at hE0
            have hE0 := Lib.hid (show VosOn wv g1 (eL L A h f u now k) from hE0)
            obtain ⟨c0, c1, c2⟩ := hE0.out.c k (by rw [eL_len]; exact hlt)
            have f0 := hE0.out.f (k * 3)
            have f1 := hE0.out.f (k * 3 + 1)
            have f2 := hE0.out.f (k * 3 + 2)
            have gz := hE0.out.lt
            go_simp
            have hS := hE0.out.set k (by rw [eL_len]; exact hlt) (votV h f u now x)
            rw [← HEY.out] at hS
            exact hK.out _ _ ⟨vs, (by rw [HLIT.out]; simp only [e12, e14]), (((hX.out.other n1 _ _).other n1 _ _).other n1 _ _), (((hO.out.other n7 _ _).other n7 _ _).other n7 _ _), hS, (((hA2.out.other n3 _ _).other n3 _ _).other n3 _ _), (((hM.out.setCell (p := ⟨g1, k * 3, none⟩) n5 _).setCell (p := ⟨g1, k * 3 + 1, none⟩) n5 _).setCell (p := ⟨g1, k * 3 + 2, none⟩) n5 _), (fun q q1 q2 hq => hG.out q q1 q2 (by unfold up at hq; rwa [if_neg (by omega)] at hq))⟩
          · intro bf ac wv hfb haf hJ K' hK
            obtain ⟨vs, rfl, hX, hO, hE, hA2, hM, hG⟩ := hJ
            replace hO := Lib.hid hO
            replace hK := Lib.hid hK
            replace hM := Lib.hid hM
            replace hX := Lib.hid hX
            replace hE := Lib.hid hE
            replace hA2 := Lib.hid hA2
            simp [Region.binds] at haf
            have e2 := (hG 2 (by decide) (by decide) (by simp [haf])).trans E2.out
            have e3 := (hG 3 (by decide) (by decide) (by simp [haf])).trans E3.out
            replace hG := Lib.hid hG
            clear haf
            replace hfb := Lib.hid hfb
            rw [HLIT.out]
            go_simp
            exact hK.out _ _ ⟨(upvR vs 16 (.pointer (some ⟨g2, k, none⟩))), (by rw [HLIT.out]; simp only [upvR, e2, e3, Nat.reduceBEq, cond_true, cond_false]), hX.out, hO.out, hE.out, hA2.out, hM.out, (up_v2 16 hG.out E16.out)⟩
          · intro bf ac wv hfb haf hJ K' hK
            obtain ⟨vs, rfl, hX, hO, hE, hA2, hM, hG⟩ := hJ
            replace hO := Lib.hid hO
            replace hK := Lib.hid hK
            replace hM := Lib.hid hM
            replace hX := Lib.hid hX
            replace hE := Lib.hid hE
            replace hA2 := Lib.hid hA2
            simp [Region.binds] at haf
            have e13 := (hG 13 (by decide) (by decide) (by simp [haf])).trans E13.out
            have e16 := (hG 16 (by decide) (by decide) (by simp [haf])).trans E16.out
            replace hG := Lib.hid hG
            clear haf
            replace hfb := Lib.hid hfb
            rw [HLIT.out]
            have hA0 := hA2.out
            rw [hfb.out] at hA0
            have hA0 := Lib.hid (show BosOn wv g2 (aL L A h f u now k) from hA0)
            have c0 := hA0.out.c k (by rw [aL_len]; exact hlt)
            have f0 := hA0.out.f k
            have gz := hA0.out.lt
            go_simp
            have hS := hA0.out.set k (by rw [aL_len]; exact hlt) (voB x.f x.h x.u h f u now)
            rw [← HAY.out] at hS
            exact hK.out _ _ ⟨vs, (by rw [HLIT.out]; simp only [e13, e16]), (hX.out.other n2 _ _), (hO.out.other n8 _ _), (hE.out.other n4 _ _), hS, (hM.out.setCell (p := ⟨g2, k, none⟩) n6 _), (fun q q1 q2 hq => hG.out q q1 q2 (by unfold up at hq; rwa [if_neg (by omega)] at hq))⟩
        · intro bf ac wv hall hJ
          obtain ⟨vs, rfl, hX, hO, hE, hA2, hM, hG⟩ := hJ
          have HO2 := Lib.hid hO
          rw [hall 15 (by decide)] at hE
          rw [hall 17 (by decide)] at hA2
          have HX2 := Lib.hid hX
          have HE2 := Lib.hid (show VosOn wv g1 (eL L A h f u now (k + 1)) from hE)
          have HA2 := Lib.hid (show BosOn wv g2 (aL L A h f u now (k + 1)) from hA2)
          have HM2 := Lib.hid hM
          clear hX hO hE hA2 hM hG hall
          rw [HLIT.out]
          go_wp2
          go_roundw
          case rel => exact ⟨k + 1, by omega, by go_num, HX2, HO2, HE2, HA2, HM2⟩
          case measure => simp [intOf]; omega
    · obtain rfl : k = L.length := by omega
      have HAC := Lib.hid (aL_count (L := L) (A := A) (h := h) (f := f) (u := u) HTM.out)
      have hag9 : agreed L A h f u now ≤ 1000 := by have := yesN_len L A L.length; have := cntN_le (agV h f u now) (yesN L A L.length) (yesN L A L.length).length; unfold agreed; omega
      have HCT := Lib.hid (rcount_any _ (aL L A h f u now L.length) wr (HAG.out.at (c := L.length) L.length (aL_len _ _ _ _ _ _ _).symm (by rw [aL_len]; omega)))
      rw [aL_len, HAC.out] at HCT
      go_wp2_with fail
      refine HCT.out.mono ?_
      rintro e w' ⟨rfl, rfl⟩
      have hgg := HG.out
      have hq : (2 * (agreed L A h f u now : Int) ≤ (L.length : Int)) = True := eq_true (by omega)
      clear hgg
      have x0 := HX.out.c 0 rfl
      have x1 := HX.out.c 1 rfl
      have x2 := HX.out.c 2 rfl
      have xz := HX.out.2.2
      have o0 := HO.out.c 0 rfl
      have o1 := HO.out.c 1 rfl
      have o2 := HO.out.c 2 rfl
      have oz := HO.out.2.2
      have p0 := HO.out.f 0 (by simp)
      have p1 := HO.out.f 1 (by simp)
      have p2 := HO.out.f 2 (by simp)
      have HFIN := Lib.hid (((HE.out.other (b := go) n7.symm 0 (.int .i64 0)).other (b := go) n7.symm 1 (.int .i64 0)).other (b := go) n7.symm 2 (.int .i64 0))
      rw [HGO.out]
      go_wp2
      all_goals have hgoe := Nat.le_of_eq HGO.out
      all_goals exact bodyPost_ret (v := .tuple #[.slice (some ⟨g1, 0, none⟩) L.length cg, .agg #[.int .i64 0, .int .i64 0, .int .i64 0], .int .i64 22]) (by simp [results, Try.results11, go_sem, o0, o1, o2]) rfl (EPost.mk (HFIN.out.at L.length (eL_len _ _ _ _ _ _ _).symm (by rw [eL_len]; omega)) (by repeat (first | with_reducible exact HB.out | with_reducible exact Below.refl _ _ | ((with_reducible refine Below.setCell ?_ ?_ _); rotate_left; focus (first | (simp; done) | (simp; omega) | omega)) | ((with_reducible refine Below.alloc ?_ ?_ _); rotate_left; focus (first | (simp; done) | (simp; omega) | omega)) | with_reducible refine Below.trans ?_ (below_drewN' _ _ _) | with_reducible refine Below.trans ?_ (below_drew _ _))))
set_option maxRecDepth 100000 in
set_option maxHeartbeats 16000000 in
theorem relect_ok (v va : Value) (L : List Vo) (A : List Bool) (hub now len h f u : Int) (w : World) (hl : VosAt w v L) (ha : BosAt w va A) (hp : PW L A hub now len h f u 0) (hg : L.length < 2 * agreed L A h f u now) :
    Calls Try.prog 11 #[v, va, .int .i64 hub, .int .i64 now, .int .i64 len] w (EPost (elL L A h f u now) h f u 0 w) := by
  have hla := Lib.hid hl
  have haa := Lib.hid ha
  obtain ⟨a, cap, rfl, hm, hcl⟩ := hl
  obtain ⟨aa, capa, rfl, hma, -⟩ := ha
  unfold maxLen at hm hma
  have HO := Lib.hid (Cs.new w w.heap.size #[.int .i64 0, .int .i64 0, .int .i64 0] 27 rfl)
  have HP := Lib.hid (rpropose_any hp (.slice a L.length cap) (.slice aa A.length capa) _ (hla.out.step (al w (.cells #[.int .i64 0, .int .i64 0, .int .i64 0] 27))) (haa.out.step (al w _)))
  obtain ⟨c0, c1, -, c3, -⟩ := arg_all (pw_ok hp)
  obtain ⟨c2, c4⟩ := inr_iff.1 c0
  have HTM := Lib.hid c3
  have HAL := Lib.hid (show A.length = L.length by omega)
  have hn23 : L.length = 2 ∨ L.length = 3 := by omega
  have hmk := hmkbn L.length hn23
  have h2 : 2 ≤ L.length := by omega
  have h3 : L.length ≤ 3 := by omega
  obtain ⟨b, off, rfl, hcs⟩ := hcl (by intro h; rw [h] at h2; simp at h2)
  have HCS := Lib.hid hcs
  have HG := Lib.hid hg
  clear hp hg c0 c1 c2 c3 c4 hn23 hcl hcs
  obtain ⟨i0, hi, hz0', hz1, hz2⟩ := info_parts info25
  go_enter Try.func11, Try.ntmps11
  go_wp2_with fail
  refine HP.out.mono ?_
  rintro e w1 ⟨rfl, b1⟩
  have HOw := Lib.hid (HO.out.step b1)
  have HBw := Lib.hid (keep2 b1 (al w (.cells #[.int .i64 0, .int .i64 0, .int .i64 0] 27)))
  have hz0 : w.heap.size + 1 ≤ w1.heap.size := by have := b1.size; simpa using this
  clear b1
  have HX1 := Lib.hid (Cs.new w1 w1.heap.size #[.int .i64 h, .int .i64 f, .int .i64 u] 27 rfl)
  have HO1 := Lib.hid (HOw.out.alloc (.cells #[.int .i64 h, .int .i64 f, .int .i64 u] 27))
  have HB1 := Lib.hid (HBw.out.alloc HBw.out.size (.cells #[.int .i64 h, .int .i64 f, .int .i64 u] 27))
  have HSR := Lib.hid (vcs_at (w := (w1.alloc (.cells #[.int .i64 h, .int .i64 f, .int .i64 u] 27)).alloc (.cells #[] 25)) (fun i x hx => ⟨keep1 (al _ _) (keep1 HB1.out (HCS.out i x hx).1), keep1 (al _ _) (keep1 HB1.out (HCS.out i x hx).2.1), keep1 (al _ _) (keep1 HB1.out (HCS.out i x hx).2.2)⟩))
  have HVL := Lib.hid (vcs_len L)
  have hbs := HBw.out.size
  have HRZ := Lib.hid (row_zero (w1.alloc (.cells #[.int .i64 h, .int .i64 f, .int .i64 u] 27)) (w1.heap.size + 1) (by simp))
  rw [show (w1.alloc (.cells #[.int .i64 h, .int .i64 f, .int .i64 u] 27)).heap.size = w1.heap.size + 1 by simp] at HRZ
  go_wp2_with (at_builtin; refine wpList_append_own _ rfl _ _ 22 rfl (w1.heap.size + 1) 25 i0 _ 3 24 Try.underlying22 hi hz0' hz1 hz2 rfl (by decide) _ _ _ rfl HRZ.out ⟨b, off, none⟩ L.length cap (vcs L) rfl HVL.out HSR.out (vcs_one' L) (by unfold maxLen; omega) (by omega) (by simp) ?_; intro v' w2 hown hgrow _; have HR2 := Lib.hid hown; have HG2 := Lib.hid (show World.grownBy ((w1.alloc (.cells #[.int .i64 h, .int .i64 f, .int .i64 u] 27)).alloc (.cells #[] 25)) w2 (some (w1.heap.size + 1)) from hgrow); clear hown hgrow)
  obtain ⟨g1, cg, rfl⟩ := row_pos HR2.out (by omega)
  rw [Nat.zero_add]
  have HE0 := Lib.hid (vosOn_row (show 0 + L.length = L.length by omega) HR2.out)
  have HX2 := Lib.hid ((HX1.out.alloc (.cells #[] 25)).grown HG2.out (by simp))
  have HO2 := Lib.hid ((HO1.out.alloc (.cells #[] 25)).grown HG2.out (by simp; omega))
  have HB2 := Lib.hid ((HB1.out.alloc (by simp; omega) (.cells #[] 25)).grown HG2.out (by simp; omega) (fun j ej => by simp at ej; omega))
  obtain ⟨gg1, gg2⟩ := HR2.out.lt g1 rfl
  have hw2 := HB2.out.size
  have HAG0 := Lib.hid (bosOn_new w2 L.length)
  have HX3 := Lib.hid (HX2.out.alloc (.cells (Array.replicate L.length (.bool false)) 4))
  have HO3 := Lib.hid (HO2.out.alloc (.cells (Array.replicate L.length (.bool false)) 4))
  have HE3 := Lib.hid (HE0.out.step (al w2 (.cells (Array.replicate L.length (.bool false)) 4)))
  have HB3 := Lib.hid (HB2.out.alloc hw2 (.cells (Array.replicate L.length (.bool false)) 4))
  obtain ⟨gx, hgx⟩ : ∃ gx, w1.heap.size = gx := ⟨_, rfl⟩
  obtain ⟨go, hgo⟩ : ∃ go, w.heap.size = go := ⟨_, rfl⟩
  obtain ⟨g2, hg2⟩ : ∃ g2, w2.heap.size = g2 := ⟨_, rfl⟩
  have n1 : gx ≠ g1 := by omega
  have n2 : gx ≠ g2 := by have := HX2.out.2.2; omega
  have n3 : g2 ≠ g1 := by omega
  have n4 : g1 ≠ g2 := by omega
  have n5 : w.heap.size ≤ g1 := by omega
  have n6 : w.heap.size ≤ g2 := by omega
  have n7 : go ≠ g1 := by omega
  have n8 : go ≠ g2 := by have := HO2.out.2.2; omega
  rw [hgx] at HX3
  rw [hgo] at HO3
  rw [hg2] at HAG0
  rw [hgx, hg2]
  have HGO := Lib.hid hgo
  clear HX1 HO1 HB1 HSR HVL HRZ HR2 HG2 HE0 HX2 HO2 HB2 gg1 gg2 hw2 hgx hg2 hbs hz0 HBw HOw hgo
  go_loopw [17] (fun i wr => ∃ k : Nat, k ≤ L.length ∧ i = .int .i64 k ∧ Hid (Cs wr gx #[.int .i64 h, .int .i64 f, .int .i64 u]) ∧ Hid (Cs wr go #[.int .i64 0, .int .i64 0, .int .i64 0]) ∧ Hid (VosOn wr g1 (eL L A h f u now k)) ∧ Hid (BosOn wr g2 (aL L A h f u now k)) ∧ Hid (Below w.heap.size w wr)) (fun i _ => L.length - (intOf i).toNat)
  case atStart => exact ⟨0, by omega, rfl, HX3, HO3, by rw [eL_zero]; exact HE3, by rw [aL_zero]; exact HAG0, HB3⟩
  case round =>
    obtain ⟨k, hk, rfl, HX, HO, HE, HAG, HB⟩ := hrel
    by_cases hlt : k < L.length
    · obtain ⟨a3, cap3, hvb, -, hct⟩ := haa.out.step HB.out
      obtain ⟨rfl, -, rfl⟩ : aa = a3 ∧ A.length = A.length ∧ capa = cap3 := by simpa using hvb
      have hlta : k < A.length := by rw [HAL.out]; exact hlt
      obtain ⟨b5, off2, rfl, hct2⟩ := hct (by intro h; rw [h] at hlta; simp at hlta)
      have y0 := hct2 k _ (bo_get hlta)
      clear hvb hct hct2
      cases hA : A.getD k false
      · have HEY := Lib.hid (eL_no (L := L) (h := h) (f := f) (u := u) (now := now) hA)
        have HAY := Lib.hid (aL_no (L := L) (h := h) (f := f) (u := u) (now := now) hA)
        rw [hA] at y0
        clear hA
        go_wp2
        go_roundw
        case rel => exact ⟨k + 1, by omega, by go_num, HX, HO, by rw [HEY.out]; exact HE, by rw [HAY.out]; exact HAG, HB⟩
        case measure => simp [intOf]; omega
      · have HEY := Lib.hid (eL_yes (L := L) (h := h) (f := f) (u := u) (now := now) hA)
        have HAY := Lib.hid (aL_yes (L := L) (h := h) (f := f) (u := u) (now := now) hA)
        rw [hA] at y0
        clear hA
        obtain ⟨xw0, xw1, xw2⟩ := HCS.out k _ (vo_get hlt)
        generalize L.getD k zV = x at *
        go_upto_region 10 with fail
        clear y0
        obtain ⟨lit, hlit⟩ : ∃ lit : (Nat → Value) → Act, lit = fun vs => { tmps := #[Value.slice (some { block := b, off := off }) L.length cap, Value.slice (some { block := b5, off := off2 }) A.length capa, Value.int IntKind.i64 hub, Value.int IntKind.i64 now, Value.int IntKind.i64 len, undef, undef, undef, undef, undef, Value.slice none 0 0, Value.pointer (some { block := w.heap.size, off := 0 }), Value.int IntKind.i64 0, Value.pointer (some { block := gx, off := 0 }), Value.int IntKind.i64 0, Value.slice (some { block := g1, off := 0 }) L.length cg, Value.slice (some { block := g2, off := 0 }) L.length L.length, Value.int IntKind.i64 (k : Int), Value.tuple #[Value.agg #[Value.int IntKind.i64 h, Value.int IntKind.i64 f, Value.int IntKind.i64 u], Value.int IntKind.i64 0], Value.slice (some { block := b, off := off }) L.length cap, Value.slice (some { block := b5, off := off2 }) A.length capa, Value.int IntKind.i64 hub, Value.int IntKind.i64 now, Value.int IntKind.i64 len, Value.tuple #[Value.agg #[Value.int IntKind.i64 h, Value.int IntKind.i64 f, Value.int IntKind.i64 u], Value.int IntKind.i64 0], Value.agg #[Value.int IntKind.i64 h, Value.int IntKind.i64 f, Value.int IntKind.i64 u], Value.int IntKind.i64 0, Value.int IntKind.i64 0, Value.bool false, undef, undef, Value.slice (some { block := gx + 1, off := 0 }) 0 0, Value.slice (some { block := b, off := off }) L.length cap, Value.slice (some { block := g1, off := 0 }) L.length cg, Value.slice (some { block := b, off := off }) L.length cap, Value.int IntKind.i64 (L.length : Int), Value.slice (some { block := g2, off := 0 }) L.length L.length, Value.int IntKind.i64 (k : Int), Value.slice (some { block := b, off := off }) L.length cap, Value.int IntKind.i64 (L.length : Int), Value.bool true, u41, u42, Value.slice (some { block := b5, off := off2 }) A.length capa, Value.int IntKind.i64 (k : Int), Value.pointer (some { block := b5, off := off2 + k }), Value.bool true, vs 11, vs 0, vs 1, vs 2, vs 3, vs 4, vs 5, vs 6, vs 7, vs 8, vs 9, vs 10, vs 12, vs 13, vs 14, vs 16, undef, undef, undef, undef, undef, undef, undef, undef, undef, undef], defers := [] } := ⟨_, rfl⟩
        have HLIT := Lib.hid hlit
        clear hlit
        obtain ⟨val, hval⟩ : ∃ val : List Value, val = [.slice (some ⟨g1, 0, none⟩) L.length cg, .int .i64 k, .slice (some ⟨g2, 0, none⟩) L.length L.length, .int .i64 k, .slice (some ⟨b, off, none⟩) L.length cap, .int .i64 k, .pointer (some ⟨b, off + k * 3, none⟩), .agg #[.int .i64 x.f, .int .i64 x.h, .int .i64 x.u], .agg #[.int .i64 h, .int .i64 f, .int .i64 u], .int .i64 now, .tuple #[.agg #[.int .i64 (votV h f u now x).f, .int .i64 (votV h f u now x).h, .int .i64 (votV h f u now x).u], .bool (voB x.f x.h x.u h f u now)], .tuple #[.agg #[.int .i64 (votV h f u now x).f, .int .i64 (votV h f u now x).h, .int .i64 (votV h f u now x).u], .bool (voB x.f x.h x.u h f u now)], .agg #[.int .i64 (votV h f u now x).f, .int .i64 (votV h f u now x).h, .int .i64 (votV h f u now x).u], .bool (voB x.f x.h x.u h f u now), .pointer (some ⟨g1, k * 3, none⟩), undef, .pointer (some ⟨g2, k, none⟩), undef] := ⟨_, rfl⟩
        have E0 := Lib.hid (show val.getD 0 undef = .slice (some ⟨g1, 0, none⟩) L.length cg by rw [hval]; rfl)
        have E1 := Lib.hid (show val.getD 1 undef = .int .i64 k by rw [hval]; rfl)
        have E2 := Lib.hid (show val.getD 2 undef = .slice (some ⟨g2, 0, none⟩) L.length L.length by rw [hval]; rfl)
        have E3 := Lib.hid (show val.getD 3 undef = .int .i64 k by rw [hval]; rfl)
        have E4 := Lib.hid (show val.getD 4 undef = .slice (some ⟨b, off, none⟩) L.length cap by rw [hval]; rfl)
        have E5 := Lib.hid (show val.getD 5 undef = .int .i64 k by rw [hval]; rfl)
        have E6 := Lib.hid (show val.getD 6 undef = .pointer (some ⟨b, off + k * 3, none⟩) by rw [hval]; rfl)
        have E7 := Lib.hid (show val.getD 7 undef = .agg #[.int .i64 x.f, .int .i64 x.h, .int .i64 x.u] by rw [hval]; rfl)
        have E8 := Lib.hid (show val.getD 8 undef = .agg #[.int .i64 h, .int .i64 f, .int .i64 u] by rw [hval]; rfl)
        have E9 := Lib.hid (show val.getD 9 undef = .int .i64 now by rw [hval]; rfl)
        have E10 := Lib.hid (show val.getD 10 undef = .tuple #[.agg #[.int .i64 (votV h f u now x).f, .int .i64 (votV h f u now x).h, .int .i64 (votV h f u now x).u], .bool (voB x.f x.h x.u h f u now)] by rw [hval]; rfl)
        have E11 := Lib.hid (show val.getD 11 undef = .tuple #[.agg #[.int .i64 (votV h f u now x).f, .int .i64 (votV h f u now x).h, .int .i64 (votV h f u now x).u], .bool (voB x.f x.h x.u h f u now)] by rw [hval]; rfl)
        have E12 := Lib.hid (show val.getD 12 undef = .agg #[.int .i64 (votV h f u now x).f, .int .i64 (votV h f u now x).h, .int .i64 (votV h f u now x).u] by rw [hval]; rfl)
        have E13 := Lib.hid (show val.getD 13 undef = .bool (voB x.f x.h x.u h f u now) by rw [hval]; rfl)
        have E14 := Lib.hid (show val.getD 14 undef = .pointer (some ⟨g1, k * 3, none⟩) by rw [hval]; rfl)
        have E15 := Lib.hid (show val.getD 15 undef = undef by rw [hval]; rfl)
        have E16 := Lib.hid (show val.getD 16 undef = .pointer (some ⟨g2, k, none⟩) by rw [hval]; rfl)
        have E17 := Lib.hid (show val.getD 17 undef = undef by rw [hval]; rfl)
        clear hval
        refine region_inv (fun bf ac wv => ∃ vs : Nat → Value, ac = lit vs ∧ Cs wv gx #[.int .i64 h, .int .i64 f, .int .i64 u] ∧ Cs wv go #[.int .i64 0, .int .i64 0, .int .i64 0] ∧ VosOn wv g1 (cond (bf 15) (eL L A h f u now (k + 1)) (eL L A h f u now k)) ∧ BosOn wv g2 (cond (bf 17) (aL L A h f u now (k + 1)) (aL L A h f u now k)) ∧ Below w.heap.size w wv ∧ ∀ i, i ≠ 15 → i ≠ 17 → bf i = true → vs i = val.getD i undef) (by kernel_rfl) (by decide +kernel) ?_ ?_ ?_
        · exact ⟨fun i => ([u48, u49, u50, u51, u52, u53, u54, u55, u56, u57, u58, u47, u59, u60, u61, undef, u62, undef] : List Value).getD i undef, (by rw [HLIT.out]; rfl), HX.out.step (below_drew _ _), HO.out.step (below_drew _ _), HE.out.step (below_drew _ _), HAG.out.step (below_drew _ _), HB.out.trans (below_drew _ _), fun i _ _ h => by cases h⟩
        · refine ⟨?_, ?_, ?_, ?_, ?_, ?_, ?_, ?_, ?_, ?_, ?_, ?_, ?_, ?_, ?_, ?_, ?_, ?_, trivial⟩
          · intro bf ac wv hfb haf hJ K' hK
            obtain ⟨vs, rfl, hX, hO, hE, hA2, hM, hG⟩ := hJ
            replace hO := Lib.hid hO
            replace hK := Lib.hid hK
            replace hM := Lib.hid hM
            replace hX := Lib.hid hX
            replace hE := Lib.hid hE
            replace hA2 := Lib.hid hA2
            replace hG := Lib.hid hG
            clear haf
            replace hfb := Lib.hid hfb
            rw [HLIT.out]
            go_simp
            exact hK.out _ _ ⟨(upvR vs 0 (.slice (some ⟨g1, 0, none⟩) L.length cg)), (by rw [HLIT.out]; rfl), hX.out, hO.out, hE.out, hA2.out, hM.out, (up_v2 0 hG.out E0.out)⟩
          · intro bf ac wv hfb haf hJ K' hK
            obtain ⟨vs, rfl, hX, hO, hE, hA2, hM, hG⟩ := hJ
            replace hO := Lib.hid hO
            replace hK := Lib.hid hK
            replace hM := Lib.hid hM
            replace hX := Lib.hid hX
            replace hE := Lib.hid hE
            replace hA2 := Lib.hid hA2
            replace hG := Lib.hid hG
            clear haf
            replace hfb := Lib.hid hfb
            rw [HLIT.out]
            go_simp
            exact hK.out _ _ ⟨(upvR vs 1 (.int .i64 k)), (by rw [HLIT.out]; rfl), hX.out, hO.out, hE.out, hA2.out, hM.out, (up_v2 1 hG.out E1.out)⟩
          · intro bf ac wv hfb haf hJ K' hK
            obtain ⟨vs, rfl, hX, hO, hE, hA2, hM, hG⟩ := hJ
            replace hO := Lib.hid hO
            replace hK := Lib.hid hK
            replace hM := Lib.hid hM
            replace hX := Lib.hid hX
            replace hE := Lib.hid hE
            replace hA2 := Lib.hid hA2
            replace hG := Lib.hid hG
            clear haf
            replace hfb := Lib.hid hfb
            rw [HLIT.out]
            go_simp
            exact hK.out _ _ ⟨(upvR vs 2 (.slice (some ⟨g2, 0, none⟩) L.length L.length)), (by rw [HLIT.out]; rfl), hX.out, hO.out, hE.out, hA2.out, hM.out, (up_v2 2 hG.out E2.out)⟩
          · intro bf ac wv hfb haf hJ K' hK
            obtain ⟨vs, rfl, hX, hO, hE, hA2, hM, hG⟩ := hJ
            replace hO := Lib.hid hO
            replace hK := Lib.hid hK
            replace hM := Lib.hid hM
            replace hX := Lib.hid hX
            replace hE := Lib.hid hE
            replace hA2 := Lib.hid hA2
            replace hG := Lib.hid hG
            clear haf
            replace hfb := Lib.hid hfb
            rw [HLIT.out]
            go_simp
            exact hK.out _ _ ⟨(upvR vs 3 (.int .i64 k)), (by rw [HLIT.out]; rfl), hX.out, hO.out, hE.out, hA2.out, hM.out, (up_v2 3 hG.out E3.out)⟩
          · intro bf ac wv hfb haf hJ K' hK
            obtain ⟨vs, rfl, hX, hO, hE, hA2, hM, hG⟩ := hJ
            replace hO := Lib.hid hO
            replace hK := Lib.hid hK
            replace hM := Lib.hid hM
            replace hX := Lib.hid hX
            replace hE := Lib.hid hE
            replace hA2 := Lib.hid hA2
            replace hG := Lib.hid hG
            clear haf
            replace hfb := Lib.hid hfb
            rw [HLIT.out]
            go_simp
            exact hK.out _ _ ⟨(upvR vs 4 (.slice (some ⟨b, off, none⟩) L.length cap)), (by rw [HLIT.out]; rfl), hX.out, hO.out, hE.out, hA2.out, hM.out, (up_v2 4 hG.out E4.out)⟩
          · intro bf ac wv hfb haf hJ K' hK
            obtain ⟨vs, rfl, hX, hO, hE, hA2, hM, hG⟩ := hJ
            replace hO := Lib.hid hO
            replace hK := Lib.hid hK
            replace hM := Lib.hid hM
            replace hX := Lib.hid hX
            replace hE := Lib.hid hE
            replace hA2 := Lib.hid hA2
            replace hG := Lib.hid hG
            clear haf
            replace hfb := Lib.hid hfb
            rw [HLIT.out]
            go_simp
            exact hK.out _ _ ⟨(upvR vs 5 (.int .i64 k)), (by rw [HLIT.out]; rfl), hX.out, hO.out, hE.out, hA2.out, hM.out, (up_v2 5 hG.out E5.out)⟩
          · intro bf ac wv hfb haf hJ K' hK
            obtain ⟨vs, rfl, hX, hO, hE, hA2, hM, hG⟩ := hJ
            replace hO := Lib.hid hO
            replace hK := Lib.hid hK
            replace hM := Lib.hid hM
            replace hX := Lib.hid hX
            replace hE := Lib.hid hE
            replace hA2 := Lib.hid hA2
            simp [Region.binds] at haf
            have e4 := (hG 4 (by decide) (by decide) (by simp [haf])).trans E4.out
            have e5 := (hG 5 (by decide) (by decide) (by simp [haf])).trans E5.out
            replace hG := Lib.hid hG
            clear haf
            replace hfb := Lib.hid hfb
            rw [HLIT.out]
            go_simp
            exact hK.out _ _ ⟨(upvR vs 6 (.pointer (some ⟨b, off + k * 3, none⟩))), (by rw [HLIT.out]; simp only [upvR, e4, e5, Nat.reduceBEq, cond_true, cond_false]), hX.out, hO.out, hE.out, hA2.out, hM.out, (up_v2 6 hG.out E6.out)⟩
          · intro bf ac wv hfb haf hJ K' hK
            obtain ⟨vs, rfl, hX, hO, hE, hA2, hM, hG⟩ := hJ
            replace hO := Lib.hid hO
            replace hK := Lib.hid hK
            replace hM := Lib.hid hM
            replace hX := Lib.hid hX
            replace hE := Lib.hid hE
            replace hA2 := Lib.hid hA2
            simp [Region.binds] at haf
            have e6 := (hG 6 (by decide) (by decide) (by simp [haf])).trans E6.out
            replace hG := Lib.hid hG
            clear haf
            replace hfb := Lib.hid hfb
            rw [HLIT.out]
            have xl0 := keep1 hM.out xw0
            have xl1 := keep1 hM.out xw1
            have xl2 := keep1 hM.out xw2
            have xz := World.block_lt_of_cell? _ _ xl0
            have xz : b < wv.heap.size := xz
            go_simp
            exact hK.out _ _ ⟨(upvR vs 7 (.agg #[.int .i64 x.f, .int .i64 x.h, .int .i64 x.u])), (by rw [HLIT.out]; simp only [upvR, e6, Nat.reduceBEq, cond_true, cond_false]), hX.out, hO.out, hE.out, hA2.out, hM.out, (up_v2 7 hG.out E7.out)⟩
          · intro bf ac wv hfb haf hJ K' hK
            obtain ⟨vs, rfl, hX, hO, hE, hA2, hM, hG⟩ := hJ
            replace hO := Lib.hid hO
            replace hK := Lib.hid hK
            replace hM := Lib.hid hM
            replace hX := Lib.hid hX
            replace hE := Lib.hid hE
            replace hA2 := Lib.hid hA2
            replace hG := Lib.hid hG
            clear haf
            replace hfb := Lib.hid hfb
            rw [HLIT.out]
            have xx0 := hX.out.c 0 rfl
            have xx1 := hX.out.c 1 rfl
            have xx2 := hX.out.c 2 rfl
            have xz := hX.out.2.2
            go_simp
            exact hK.out _ _ ⟨(upvR vs 8 (.agg #[.int .i64 h, .int .i64 f, .int .i64 u])), (by rw [HLIT.out]; rfl), hX.out, hO.out, hE.out, hA2.out, hM.out, (up_v2 8 hG.out E8.out)⟩
          · intro bf ac wv hfb haf hJ K' hK
            obtain ⟨vs, rfl, hX, hO, hE, hA2, hM, hG⟩ := hJ
            replace hO := Lib.hid hO
            replace hK := Lib.hid hK
            replace hM := Lib.hid hM
            replace hX := Lib.hid hX
            replace hE := Lib.hid hE
            replace hA2 := Lib.hid hA2
            replace hG := Lib.hid hG
            clear haf
            replace hfb := Lib.hid hfb
            rw [HLIT.out]
            go_simp
            exact hK.out _ _ ⟨(upvR vs 9 (.int .i64 now)), (by rw [HLIT.out]; rfl), hX.out, hO.out, hE.out, hA2.out, hM.out, (up_v2 9 hG.out E9.out)⟩
          · intro bf ac wv hfb haf hJ K' hK
            obtain ⟨vs, rfl, hX, hO, hE, hA2, hM, hG⟩ := hJ
            replace hO := Lib.hid hO
            replace hK := Lib.hid hK
            replace hM := Lib.hid hM
            replace hX := Lib.hid hX
            replace hE := Lib.hid hE
            replace hA2 := Lib.hid hA2
            simp [Region.binds] at haf
            have e7 := (hG 7 (by decide) (by decide) (by simp [haf])).trans E7.out
            have e8 := (hG 8 (by decide) (by decide) (by simp [haf])).trans E8.out
            have e9 := (hG 9 (by decide) (by decide) (by simp [haf])).trans E9.out
            replace hG := Lib.hid hG
            clear haf
            replace hfb := Lib.hid hfb
            rw [HLIT.out]
            go_simp
            go_at_call 15
            refine (rvoteV h f u now x _).mono ?_
            rintro e w4 ⟨rfl, b4⟩
            exact hK.out _ _ ⟨(upvR vs 10 (.tuple #[.agg #[.int .i64 (votV h f u now x).f, .int .i64 (votV h f u now x).h, .int .i64 (votV h f u now x).u], .bool (voB x.f x.h x.u h f u now)])), (by rw [HLIT.out]; simp only [upvR, e7, e8, e9, Nat.reduceBEq, cond_true, cond_false]), (hX.out.step b4), (hO.out.step b4), (hE.out.step b4), (hA2.out.step b4), (keep2 b4 hM.out), (up_v2 10 hG.out E10.out)⟩
          · intro bf ac wv hfb haf hJ K' hK
            obtain ⟨vs, rfl, hX, hO, hE, hA2, hM, hG⟩ := hJ
            replace hO := Lib.hid hO
            replace hK := Lib.hid hK
            replace hM := Lib.hid hM
            replace hX := Lib.hid hX
            replace hE := Lib.hid hE
            replace hA2 := Lib.hid hA2
            simp [Region.binds] at haf
            have e10 := (hG 10 (by decide) (by decide) (by simp [haf])).trans E10.out
            replace hG := Lib.hid hG
            clear haf
            replace hfb := Lib.hid hfb
            rw [HLIT.out]
            go_simp
            exact hK.out _ _ ⟨(upvR vs 11 (.tuple #[.agg #[.int .i64 (votV h f u now x).f, .int .i64 (votV h f u now x).h, .int .i64 (votV h f u now x).u], .bool (voB x.f x.h x.u h f u now)])), (by rw [HLIT.out]; simp only [upvR, e10, Nat.reduceBEq, cond_true, cond_false]), hX.out, hO.out, hE.out, hA2.out, hM.out, (up_v2 11 hG.out E11.out)⟩
          · intro bf ac wv hfb haf hJ K' hK
            obtain ⟨vs, rfl, hX, hO, hE, hA2, hM, hG⟩ := hJ
            replace hO := Lib.hid hO
            replace hK := Lib.hid hK
            replace hM := Lib.hid hM
            replace hX := Lib.hid hX
            replace hE := Lib.hid hE
            replace hA2 := Lib.hid hA2
            simp [Region.binds] at haf
            have e11 := (hG 11 (by decide) (by decide) (by simp [haf])).trans E11.out
            replace hG := Lib.hid hG
            clear haf
            replace hfb := Lib.hid hfb
            rw [HLIT.out]
            go_simp
            exact hK.out _ _ ⟨(upvR vs 12 (.agg #[.int .i64 (votV h f u now x).f, .int .i64 (votV h f u now x).h, .int .i64 (votV h f u now x).u])), (by rw [HLIT.out]; simp only [upvR, e11, Nat.reduceBEq, cond_true, cond_false]), hX.out, hO.out, hE.out, hA2.out, hM.out, (up_v2 12 hG.out E12.out)⟩
          · intro bf ac wv hfb haf hJ K' hK
            obtain ⟨vs, rfl, hX, hO, hE, hA2, hM, hG⟩ := hJ
            replace hO := Lib.hid hO
            replace hK := Lib.hid hK
            replace hM := Lib.hid hM
            replace hX := Lib.hid hX
            replace hE := Lib.hid hE
            replace hA2 := Lib.hid hA2
            simp [Region.binds] at haf
            have e11 := (hG 11 (by decide) (by decide) (by simp [haf])).trans E11.out
            replace hG := Lib.hid hG
            clear haf
            replace hfb := Lib.hid hfb
            rw [HLIT.out]
            go_simp
            exact hK.out _ _ ⟨(upvR vs 13 (.bool (voB x.f x.h x.u h f u now))), (by rw [HLIT.out]; simp only [upvR, e11, Nat.reduceBEq, cond_true, cond_false]), hX.out, hO.out, hE.out, hA2.out, hM.out, (up_v2 13 hG.out E13.out)⟩
          · intro bf ac wv hfb haf hJ K' hK
            obtain ⟨vs, rfl, hX, hO, hE, hA2, hM, hG⟩ := hJ
            replace hO := Lib.hid hO
            replace hK := Lib.hid hK
            replace hM := Lib.hid hM
            replace hX := Lib.hid hX
            replace hE := Lib.hid hE
            replace hA2 := Lib.hid hA2
            simp [Region.binds] at haf
            have e0 := (hG 0 (by decide) (by decide) (by simp [haf])).trans E0.out
            have e1 := (hG 1 (by decide) (by decide) (by simp [haf])).trans E1.out
            replace hG := Lib.hid hG
            clear haf
            replace hfb := Lib.hid hfb
            rw [HLIT.out]
            go_simp
            exact hK.out _ _ ⟨(upvR vs 14 (.pointer (some ⟨g1, k * 3, none⟩))), (by rw [HLIT.out]; simp only [upvR, e0, e1, Nat.reduceBEq, cond_true, cond_false]), hX.out, hO.out, hE.out, hA2.out, hM.out, (up_v2 14 hG.out E14.out)⟩
          · intro bf ac wv hfb haf hJ K' hK
            obtain ⟨vs, rfl, hX, hO, hE, hA2, hM, hG⟩ := hJ
            replace hO := Lib.hid hO
            replace hK := Lib.hid hK
            replace hM := Lib.hid hM
            replace hX := Lib.hid hX
            replace hE := Lib.hid hE
            replace hA2 := Lib.hid hA2
            simp [Region.binds] at haf
            have e12 := (hG 12 (by decide) (by decide) (by simp [haf])).trans E12.out
            have e14 := (hG 14 (by decide) (by decide) (by simp [haf])).trans E14.out
            replace hG := Lib.hid hG
            clear haf
            replace hfb := Lib.hid hfb
            rw [HLIT.out]
            have hE0 := hE.out
            rw [hfb.out] at hE0
            have hE0 := Lib.hid (show VosOn wv g1 (eL L A h f u now k) from hE0)
            obtain ⟨c0, c1, c2⟩ := hE0.out.c k (by rw [eL_len]; exact hlt)
            have f0 := hE0.out.f (k * 3)
            have f1 := hE0.out.f (k * 3 + 1)
            have f2 := hE0.out.f (k * 3 + 2)
            have gz := hE0.out.lt
            go_simp
            have hS := hE0.out.set k (by rw [eL_len]; exact hlt) (votV h f u now x)
            rw [← HEY.out] at hS
            exact hK.out _ _ ⟨vs, (by rw [HLIT.out]; simp only [e12, e14]), (((hX.out.other n1 _ _).other n1 _ _).other n1 _ _), (((hO.out.other n7 _ _).other n7 _ _).other n7 _ _), hS, (((hA2.out.other n3 _ _).other n3 _ _).other n3 _ _), (((hM.out.setCell (p := ⟨g1, k * 3, none⟩) n5 _).setCell (p := ⟨g1, k * 3 + 1, none⟩) n5 _).setCell (p := ⟨g1, k * 3 + 2, none⟩) n5 _), (fun q q1 q2 hq => hG.out q q1 q2 (by unfold up at hq; rwa [if_neg (by omega)] at hq))⟩
          · intro bf ac wv hfb haf hJ K' hK
            obtain ⟨vs, rfl, hX, hO, hE, hA2, hM, hG⟩ := hJ
            replace hO := Lib.hid hO
            replace hK := Lib.hid hK
            replace hM := Lib.hid hM
            replace hX := Lib.hid hX
            replace hE := Lib.hid hE
            replace hA2 := Lib.hid hA2
            simp [Region.binds] at haf
            have e2 := (hG 2 (by decide) (by decide) (by simp [haf])).trans E2.out
            have e3 := (hG 3 (by decide) (by decide) (by simp [haf])).trans E3.out
            replace hG := Lib.hid hG
            clear haf
            replace hfb := Lib.hid hfb
            rw [HLIT.out]
            go_simp
            exact hK.out _ _ ⟨(upvR vs 16 (.pointer (some ⟨g2, k, none⟩))), (by rw [HLIT.out]; simp only [upvR, e2, e3, Nat.reduceBEq, cond_true, cond_false]), hX.out, hO.out, hE.out, hA2.out, hM.out, (up_v2 16 hG.out E16.out)⟩
          · intro bf ac wv hfb haf hJ K' hK
            obtain ⟨vs, rfl, hX, hO, hE, hA2, hM, hG⟩ := hJ
            replace hO := Lib.hid hO
            replace hK := Lib.hid hK
            replace hM := Lib.hid hM
            replace hX := Lib.hid hX
            replace hE := Lib.hid hE
            replace hA2 := Lib.hid hA2
            simp [Region.binds] at haf
            have e13 := (hG 13 (by decide) (by decide) (by simp [haf])).trans E13.out
            have e16 := (hG 16 (by decide) (by decide) (by simp [haf])).trans E16.out
            replace hG := Lib.hid hG
            clear haf
            replace hfb := Lib.hid hfb
            rw [HLIT.out]
            have hA0 := hA2.out
            rw [hfb.out] at hA0
            have hA0 := Lib.hid (show BosOn wv g2 (aL L A h f u now k) from hA0)
            have c0 := hA0.out.c k (by rw [aL_len]; exact hlt)
            have f0 := hA0.out.f k
            have gz := hA0.out.lt
            go_simp
            have hS := hA0.out.set k (by rw [aL_len]; exact hlt) (voB x.f x.h x.u h f u now)
            rw [← HAY.out] at hS
            exact hK.out _ _ ⟨vs, (by rw [HLIT.out]; simp only [e13, e16]), (hX.out.other n2 _ _), (hO.out.other n8 _ _), (hE.out.other n4 _ _), hS, (hM.out.setCell (p := ⟨g2, k, none⟩) n6 _), (fun q q1 q2 hq => hG.out q q1 q2 (by unfold up at hq; rwa [if_neg (by omega)] at hq))⟩
        · intro bf ac wv hall hJ
          obtain ⟨vs, rfl, hX, hO, hE, hA2, hM, hG⟩ := hJ
          have HO2 := Lib.hid hO
          rw [hall 15 (by decide)] at hE
          rw [hall 17 (by decide)] at hA2
          have HX2 := Lib.hid hX
          have HE2 := Lib.hid (show VosOn wv g1 (eL L A h f u now (k + 1)) from hE)
          have HA2 := Lib.hid (show BosOn wv g2 (aL L A h f u now (k + 1)) from hA2)
          have HM2 := Lib.hid hM
          clear hX hO hE hA2 hM hG hall
          rw [HLIT.out]
          go_wp2
          go_roundw
          case rel => exact ⟨k + 1, by omega, by go_num, HX2, HO2, HE2, HA2, HM2⟩
          case measure => simp [intOf]; omega
    · obtain rfl : k = L.length := by omega
      have HAC := Lib.hid (aL_count (L := L) (A := A) (h := h) (f := f) (u := u) HTM.out)
      have hag9 : agreed L A h f u now ≤ 1000 := by have := yesN_len L A L.length; have := cntN_le (agV h f u now) (yesN L A L.length) (yesN L A L.length).length; unfold agreed; omega
      have HCT := Lib.hid (rcount_any _ (aL L A h f u now L.length) wr (HAG.out.at (c := L.length) L.length (aL_len _ _ _ _ _ _ _).symm (by rw [aL_len]; omega)))
      rw [aL_len, HAC.out] at HCT
      go_wp2_with fail
      refine HCT.out.mono ?_
      rintro e w' ⟨rfl, rfl⟩
      have hgg := HG.out
      have hq : (2 * (agreed L A h f u now : Int) ≤ (L.length : Int)) = False := eq_false (by omega)
      clear hgg
      have x0 := HX.out.c 0 rfl
      have x1 := HX.out.c 1 rfl
      have x2 := HX.out.c 2 rfl
      have xz := HX.out.2.2
      have o0 := HO.out.c 0 rfl
      have o1 := HO.out.c 1 rfl
      have o2 := HO.out.c 2 rfl
      have oz := HO.out.2.2
      have p0 := HO.out.f 0 (by simp)
      have p1 := HO.out.f 1 (by simp)
      have p2 := HO.out.f 2 (by simp)
      have HFIN := Lib.hid (((HE.out.other (b := go) n7.symm 0 (.int .i64 h)).other (b := go) n7.symm 1 (.int .i64 f)).other (b := go) n7.symm 2 (.int .i64 u))
      rw [HGO.out]
      go_wp2_with fail
      go_region
      all_goals go_wp2
      all_goals have hgoe := Nat.le_of_eq HGO.out
      all_goals exact bodyPost_ret (v := .tuple #[.slice (some ⟨g1, 0, none⟩) L.length cg, .agg #[.int .i64 h, .int .i64 f, .int .i64 u], .int .i64 0]) (by simp [results, Try.results11, go_sem, o0, o1, o2]) rfl (EPost.mk (HFIN.out.at L.length (eL_len _ _ _ _ _ _ _).symm (by rw [eL_len]; omega)) (by repeat (first | with_reducible exact HB.out | with_reducible exact Below.refl _ _ | ((with_reducible refine Below.setCell ?_ ?_ _); rotate_left; focus (first | (simp; done) | (simp; omega) | omega)) | ((with_reducible refine Below.alloc ?_ ?_ _); rotate_left; focus (first | (simp; done) | (simp; omega) | omega)) | with_reducible refine Below.trans ?_ (below_drewN' _ _ _) | with_reducible refine Below.trans ?_ (below_drew _ _))))
theorem relect_any {L : List Vo} {A : List Bool} {hub now len : Int} {V : List Vo} {h f u er : Int} (hp : EW L A hub now len V h f u er) (v va : Value) (w : World) (hl : VosAt w v L) (ha : BosAt w va A) :
    Calls Try.prog 11 #[v, va, .int .i64 hub, .int .i64 now, .int .i64 len] w (EPost V h f u er w) := by
  cases hp with
  | no h0 f0 u0 _ h1 h2 => exact relect_no v va L A hub now len h0 f0 u0 er w hl ha h1 h2
  | few h f u h1 h2 => exact relect_few v va L A hub now len h f u w hl ha h1 h2
  | ok _ _ _ h1 h2 => exact relect_ok v va L A hub now len h f u w hl ha h1 h2
end Go.Proofs.Ytelohejnbfefoaa
