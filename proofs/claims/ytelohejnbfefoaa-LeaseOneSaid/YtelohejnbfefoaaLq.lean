/- Leases: 'play'. -/
import Derived.Test.YtelohejnbfefoaaLk
import Derived.Test.YtelohejnbfefoaaIv
namespace Go.Proofs.Ytelohejnbfefoaa
open Go.RowKit

theorem hmk2 : ∀ w, (Instr.makeSlice 22 (.int .i64 2) (.int .i64 2)).run Try.prog w = .ok (.slice (some ⟨w.heap.size, 0, none⟩) 2 2) (w.alloc (.cells #[.int .i64 0, .int .i64 0, .int .i64 0, .int .i64 0, .int .i64 0, .int .i64 0] 25)) := fun _ => by kernel_rfl
theorem hmkn (n : Nat) (hn : n = 2 ∨ n = 3) : ∀ w, (Instr.makeSlice 22 (.int .i64 (n : Int)) (.int .i64 (n : Int))).run Try.prog w = .ok (.slice (some ⟨w.heap.size, 0, none⟩) n n) (w.alloc (.cells (Array.replicate (n * 3) (.int .i64 0)) 25)) := by
  rcases hn with rfl | rfl
  · exact hmk2
  · exact hmk3
theorem vcs_rep : ∀ n : Nat, vcs (List.replicate n zV) = List.replicate (n * 3) (.int .i64 0)
  | 0 => rfl
  | n + 1 => by
    rw [List.replicate_succ, show vcs (zV :: List.replicate n zV) = zV.cells ++ vcs (List.replicate n zV) by simp [vcs], vcs_rep n, show (n + 1) * 3 = 3 + n * 3 by omega, ← List.replicate_append_replicate]
    rfl
/-- The cells of leases that were got. -/
def Go1.cells (x : Go1) : List Value := [.int .i64 x.h, .int .i64 x.f, .int .i64 x.u, .int .i64 x.t]
def gcs (l : List Go1) : List Value := l.flatMap Go1.cells
theorem gcs_app (l m : List Go1) : gcs (l ++ m) = gcs l ++ gcs m := by simp [gcs]
theorem gcs_one (x : Go1) : gcs [x] = x.cells := by simp [gcs]
theorem gcs_get (l : List Go1) : ∀ (i : Nat) (x : Go1), l[i]? = some x → ∀ j, j < 4 → (gcs l)[i * 4 + j]? = x.cells[j]? := by
  induction l with
  | nil => intro i x h; simp at h
  | cons y l ih =>
    intro i x h j hj
    have hs : gcs (y :: l) = y.cells ++ gcs l := by simp [gcs]
    rw [hs]
    cases i with
    | zero =>
      simp at h; subst h
      rw [List.getElem?_append_left (by simp [Go1.cells]; omega)]
      simp
    | succ i =>
      rw [List.getElem?_append_right (by simp [Go1.cells]; omega)]
      have := ih i x (by simpa using h) j hj
      rw [← this]
      congr 1
      simp [Go1.cells]; omega
def GosAt (w : World) (v : Value) (l : List Go1) : Prop :=
  ∃ a cap, v = .slice a l.length cap ∧ l.length ≤ maxLen ∧ (l ≠ [] → ∃ b off, a = some ⟨b, off, none⟩ ∧ ∀ (i : Nat) (x : Go1), l[i]? = some x →
    w.cell? ⟨b, off + i * 4, none⟩ = some (.int .i64 x.h) ∧ w.cell? ⟨b, off + i * 4 + 1, none⟩ = some (.int .i64 x.f) ∧ w.cell? ⟨b, off + i * 4 + 2, none⟩ = some (.int .i64 x.u) ∧ w.cell? ⟨b, off + i * 4 + 3, none⟩ = some (.int .i64 x.t))
theorem GosAt.step {w w1 : World} {v : Value} {l : List Go1} (h : GosAt w v l) (hb : Below w.heap.size w w1) : GosAt w1 v l := by
  obtain ⟨a, cap, hv, hm, hc⟩ := h
  refine ⟨a, cap, hv, hm, fun hl => ?_⟩
  obtain ⟨b, off, ha, hx⟩ := hc hl
  exact ⟨b, off, ha, fun i x h => ⟨keep1 hb (hx i x h).1, keep1 hb (hx i x h).2.1, keep1 hb (hx i x h).2.2.1, keep1 hb (hx i x h).2.2.2⟩⟩
theorem gos_of_row {w : World} {base n : Nat} {v : Value} {l : List Go1} (hn : n = l.length) (hl : l.length ≤ maxLen) (h : w.ownsRow base 45 4 v n (gcs l)) : GosAt w v l := by
  subst hn
  have hc := fun g (hg : v.ownBlock = some g) => h.cells hg
  rcases h.2 with ⟨rfl, h0⟩ | ⟨g, cap, cur, rfl, -⟩
  · have : l = [] := List.length_eq_zero_iff.1 h0
    subst this
    exact ⟨none, 0, rfl, by simp, fun h => absurd rfl h⟩
  · refine ⟨some ⟨g, 0, none⟩, cap, rfl, hl, fun _ => ⟨g, 0, rfl, fun i x hi => ?_⟩⟩
    have hj := fun j (hj : j < 4) u (hu : x.cells[j]? = some u) => hc g rfl (i * 4 + j) u ((gcs_get l i x hi j hj).trans hu)
    simp only [Go.WideShapes.add_plain] at hj
    exact ⟨hj 0 (by omega) _ rfl, hj 1 (by omega) _ rfl, hj 2 (by omega) _ rfl, hj 3 (by omega) _ rfl⟩
theorem cell_four_new (W : World) (a b c d : Value) (T : TypeId) (n : Nat) (hn : n = W.heap.size) : ∀ j u, [a, b, c, d][j]? = some u → (W.alloc (.cells #[a, b, c, d] T)).cell? ((⟨n, 0, none⟩ : Addr).add j) = some u := by
  subst hn
  intro j u hu
  rw [Go.WideShapes.add_plain, World.cell?_alloc_new]
  simpa using hu
theorem info45 : (Try.prog.info? 45).map (fun i => (i.zero, i.size, i.bytes)) = some (some (.agg #[.int .i64 0, .int .i64 0, .int .i64 0, .int .i64 0]), 4, 32) := by kernel_rfl
theorem tr_get {l : List Tr} {k : Nat} (h : k < l.length) : l[k]? = some (l.getD k zT) := by simp [h]
theorem tr_ok {l : List Tr} (hx : ∀ x ∈ l, x.ok) {k : Nat} (h : k < l.length) : (l.getD k zT).ok := hx _ (by simp [h])
theorem row_step {w w' : World} {base : Nat} {e : TypeId} {size : Nat} {v : Value} {n : Nat} {xs : List Value} (h : w.ownsRow base e size v n xs) (hb : Below w.heap.size w w') : w'.ownsRow base e size v n xs :=
  h.kept (row := none) ⟨hb.os, hb.tape, hb.output, hb.size, fun k hk _ => hb.block k hk⟩ (by cases v.ownBlock <;> simp)
theorem VosAt.grown {w w' : World} {v : Value} {l : List Vo} {row : Option Nat} (h : VosAt w v l) (hg : w.grownBy w' row) (hne : l ≠ [] → ∀ g, blk v = some g → row ≠ some g) : VosAt w' v l := by
  have hlt := vos_lt h
  obtain ⟨a, cap, hv, hm, hc⟩ := h
  refine ⟨a, cap, hv, hm, fun hl => ?_⟩
  obtain ⟨b2, off, ha, hx⟩ := hc hl
  have hb2 : blk v = some b2 := by rw [hv, ha]; rfl
  have hk : ∀ i, w'.cell? ⟨b2, i, none⟩ = w.cell? ⟨b2, i, none⟩ := fun i => World.cell?_of_block (a := ⟨b2, i, none⟩) (hg.block b2 (hlt hl b2 hb2) (fun e => hne hl b2 hb2 e.symm))
  exact ⟨b2, off, ha, fun i x hi => by rw [hk, hk, hk]; exact hx i x hi⟩
theorem vos_slice {w : World} {v : Value} {l : List Vo} (h : VosAt w v l) : ∃ a c, v = .slice a l.length c := by
  obtain ⟨a, c, h, -⟩ := h; exact ⟨a, c, h⟩
def PlayPost (n : Nat) (K : Nat) (w : World) (e : Ending) (w' : World) : Prop := ∃ (lv gv : Value) (L : List Vo) (G : List Go1) (now : Int), e = .returned (.tuple #[lv, gv, .int .i64 now, .bool true]) ∧ VosAt w' lv L ∧ GosAt w' gv G ∧ Inv n K L G now ∧ G.length ≤ K ∧ Below w.heap.size w w'
theorem PlayPost.mk {n K : Nat} {w w' : World} {lv gv : Value} {L : List Vo} {G : List Go1} {now : Int} (h1 : VosAt w' lv L) (h2 : GosAt w' gv G) (h3 : Inv n K L G now) (h4 : G.length ≤ K) (h5 : Below w.heap.size w w') : PlayPost n K w (.returned (.tuple #[lv, gv, .int .i64 now, .bool true])) w' := ⟨lv, gv, L, G, now, rfl, h1, h2, h3, h4, h5⟩
/-- The memory of one attempt: its new block. -/
structure Rg (wq w : World) (m : Nat) (p : Value) (b t : Bool) (J : Array Value) : Prop where
  below : Below wq.heap.size wq w
  le : wq.heap.size ≤ m
  c : b = true → p = .pointer (some ⟨m, 0, none⟩) ∧ Cs w m (cond t J #[.int .i64 0, .int .i64 0, .int .i64 0])
  i : b = false → t = false
theorem Rg.start (wq : World) (p : Value) (J : Array Value) : Rg wq wq.drew wq.heap.size p false false J := ⟨below_drew _ _, Nat.le_refl _, by simp, by simp⟩
theorem Rg.step {wq w w' : World} {m : Nat} {p : Value} {b t : Bool} {J : Array Value} (h : Rg wq w m p b t J) (hb : Below w.heap.size w w') : Rg wq w' m p b t J :=
  ⟨keep2 hb h.below, h.le, fun x => ⟨(h.c x).1, (h.c x).2.step hb⟩, h.i⟩
theorem Rg.alloc {wq w : World} {m : Nat} {p : Value} {t : Bool} {J : Array Value} (h : Rg wq w m p false t J) : Rg wq (w.alloc (.cells #[.int .i64 0, .int .i64 0, .int .i64 0] 27)) w.heap.size (.pointer (some ⟨w.heap.size, 0, none⟩)) true t J := by
  have ht := h.i rfl
  subst ht
  exact ⟨keep2 (al _ _) h.below, h.below.size, fun _ => ⟨rfl, Cs.new _ _ _ _ rfl⟩, by simp⟩
/-- What the call of 'Elect' leaves. -/
def Vt (wq w : World) (r : Value) (V : List Vo) (m : Nat) (b : Bool) : Prop := VosAt w r V ∧ New wq r ∧ (b = true → V ≠ [] → ∀ g, blk r = some g → g ≠ m)
def Ans (A : List Bool) (n : Nat) (L : List Vo) (hub now ln : Int) (V : List Vo) (h f u er : Int) : Prop := A.length = n ∧ EW L A hub now ln V h f u er
theorem Rg.swap {wq w : World} {m : Nat} {p : Value} {b t : Bool} {J J' : Array Value} (ht : t = false) (h : Rg wq w m p b t J) : Rg wq w m p b t J' := by
  subst ht; exact ⟨h.below, h.le, h.c, h.i⟩
theorem Rg.store {wq w : World} {m : Nat} {p : Value} {a b c : Value} (h : Rg wq w m p true false #[a, b, c]) : Rg wq (((w.setCell ⟨m, 0, none⟩ a).setCell ⟨m, 1, none⟩ b).setCell ⟨m, 2, none⟩ c) m p true true #[a, b, c] := by
  refine ⟨?_, h.le, fun _ => ⟨(h.c rfl).1, ?_⟩, by simp⟩
  · exact ((h.below.setCell (p := ⟨m, 0, none⟩) h.le a).setCell (p := ⟨m, 1, none⟩) h.le b).setCell (p := ⟨m, 2, none⟩) h.le c
  · exact (((h.c rfl).2.set 0 (by simp) a (vs' := #[a, .int .i64 0, .int .i64 0]) rfl).set 1 (by simp) b (vs' := #[a, b, .int .i64 0]) rfl).set 2 (by simp) c rfl
theorem Vt.step {wq w w' : World} {r : Value} {V : List Vo} {m : Nat} {b : Bool} (h : Vt wq w r V m b) (hb : Below w.heap.size w w') : Vt wq w' r V m b := ⟨h.1.step hb, h.2⟩
theorem Vt.alloc {wq w : World} {r : Value} {V : List Vo} {m : Nat} {b : Bool} (h : Vt wq w r V m b) (o : Obj) : Vt wq (w.alloc o) r V w.heap.size true :=
  ⟨h.1.step (al _ _), h.2.1, fun _ hl g hg => by have := vos_lt h.1 hl g hg; omega⟩
theorem Vt.store {wq w : World} {r : Value} {V : List Vo} {m : Nat} {b : Bool} (hb : b = true) (h : Vt wq w r V m b) (x y z : Value) : Vt wq (((w.setCell ⟨m, 0, none⟩ x).setCell ⟨m, 1, none⟩ y).setCell ⟨m, 2, none⟩ z) r V m b :=
  ⟨((h.1.apart (h.2.2 hb) 0 x).apart (h.2.2 hb) 1 y).apart (h.2.2 hb) 2 z, h.2⟩
theorem Vt.mk' {wq w w5 : World} {r p : Value} {V : List Vo} {m : Nat} {b t : Bool} {J : Array Value} (h : VosAt w5 r V) (hn : New w r) (M : Rg wq w m p b t J) : Vt wq w5 r V m b :=
  ⟨h, fun g hg => Nat.le_trans M.below.size (hn g hg), fun hb _ g hg => by have h1 := hn g hg; have h2 := (M.c hb).2.2.2; omega⟩
theorem no_of {b : Bool} {P : Prop} (h : b = false) : b = true → P := fun h2 => by rw [h] at h2; cases h2
theorem yes_of {b : Bool} {P : Prop} (h : b = true) : b = false → P := fun h2 => by rw [h] at h2; cases h2
/-- What has come up only behind something else. -/
def Imp (l : List (Nat × Nat)) (bf : Nat → Bool) : Prop := ∀ p, p ∈ l → bf p.1 = true → bf p.2 = true
theorem Imp.start (l : List (Nat × Nat)) : Imp l (fun _ => false) := fun _ _ h => by cases h
theorem imp_up {l : List (Nat × Nat)} {bf : Nat → Bool} {i : Nat} (h : Imp l bf) (hd : ∀ p, p ∈ l → p.1 = i → bf p.2 = true) : Imp l (up bf i) := fun p hp hb => by
  unfold Ytelohejnbfefoaa.up at hb ⊢
  split
  · rfl
  · by_cases e : p.1 = i
    · exact hd p hp e
    · rw [if_neg e] at hb; exact h p hp hb
theorem imp_free {l : List (Nat × Nat)} {bf : Nat → Bool} (i : Nat) (h : Imp l bf) (hi : (l.all fun p => p.1 != i) = true) : Imp l (up bf i) :=
  imp_up h fun p hp he => by
    rw [List.all_eq_true] at hi
    have := hi p hp
    simp [he] at this
theorem imp_one {l : List (Nat × Nat)} {bf : Nat → Bool} (i j : Nat) (h : Imp l bf) (hi : (l.all fun p => p.1 != i || p.2 == j) = true) (hj : bf j = true) : Imp l (up bf i) :=
  imp_up h fun p hp he => by
    rw [List.all_eq_true] at hi
    have := hi p hp
    simp only [he, bne_self_eq_false, Bool.false_or, beq_iff_eq] at this
    rw [this]; exact hj
theorem Imp.no {l : List (Nat × Nat)} {bf : Nat → Bool} (h : Imp l bf) (i j : Nat) (hp : (i, j) ∈ l) (hj : bf j = false) : bf i = false := by
  cases hb : bf i with
  | false => rfl
  | true => have := h _ hp hb; rw [hj] at this; cases this
abbrev chain : List (Nat × Nat) := [(15, 4), (16, 15), (17, 16), (18, 16), (19, 16), (21, 17), (22, 18), (23, 19)]
set_option maxRecDepth 100000 in
set_option maxHeartbeats 16000000 in
theorem play_any (n : Nat) (v : Value) (T : List Tr) (w : World) (hn : n = 2 ∨ n = 3) (hl : TrsAt w v T) (hx : ∀ x ∈ T, x.ok) (h60 : T.length ≤ 60) :
    Calls Try.prog 19 #[.int .i64 n, v] w (PlayPost n T.length w) := by
  have HL := Lib.hid hl
  have HX := Lib.hid hx
  obtain ⟨a, cap, rfl, -, -⟩ := hl
  have hmk := hmkn n hn
  have h2 : 2 ≤ n := by omega
  have h3 : n ≤ 3 := by omega
  have HV0 := Lib.hid (vos_lit w (List.replicate n zV) (Array.replicate (n * 3) (.int .i64 0)) 25 (by rw [vcs_rep]; simp) (by simp; omega) n (by simp) w.heap.size rfl)
  have HB0 := Lib.hid (al w (.cells (Array.replicate (n * 3) (.int .i64 0)) 25))
  clear hx hn
  obtain ⟨i0, hi, hz0, hz1, hz2⟩ := info_parts info45
  go_enter Try.func19, Try.ntmps19
  go_wp2_with fail
  go_loopw [8, 9, 10, 11] (fun lv gv nv i wr => ∃ (k : Nat) (L : List Vo) (G : List Go1) (now : Int), k ≤ T.length ∧ i = .int .i64 k ∧ nv = .int .i64 now ∧ Hid (VosAt wr lv L) ∧ Hid (wr.ownsRow w.heap.size 45 4 gv G.length (gcs G)) ∧ Hid (G.length ≤ k) ∧ Hid (Inv n k L G now) ∧ Hid (Below w.heap.size w wr)) (fun _ _ _ i _ => T.length - (intOf i).toNat)
  case atStart => exact ⟨0, _, [], 0, by omega, rfl, rfl, HV0, World.ownsRow_nil _ _ _ _, Nat.le_refl _, Inv.start n, HB0⟩
  case round =>
    obtain ⟨k, L, G, now, hk, rfl, rfl, HV, HG, HGL, HI, HB⟩ := hrel
    have hsz := HB.out.size
    by_cases hlt : k < T.length
    · obtain ⟨a2, cap2, hva, -, hcs⟩ := HL.out.step HB.out
      obtain ⟨rfl, rfl⟩ : a = a2 ∧ cap = cap2 := by simpa using hva
      obtain ⟨b, off, rfl, hcs2⟩ := hcs (by intro h; rw [h] at hlt; simp at hlt)
      obtain ⟨x0, x1, x2, x3⟩ := hcs2 k _ (tr_get hlt)
      have hxo := tr_ok HX.out hlt
      generalize T.getD k zT = x at *
      obtain ⟨⟨p1, p2⟩, ⟨p3, p4⟩, ⟨p5, p6⟩, ⟨p7, p8⟩⟩ := hxo
      have ht := HI.out.tim
      obtain ⟨q1, q2⟩ : 0 ≤ now ∧ now ≤ 65535 * 100 := by omega
      clear ht hcs hcs2 hva
      go_upto_region 9 with fail
      obtain ⟨now2, hnow2⟩ : ∃ now2, now + x.aft = now2 := ⟨_, rfl⟩
      have HTB0 := Lib.hid (Cs.new wr wr.heap.size #[.int .u8 x.hub, .int .u8 x.ans, .int .u16 x.aft, .int .u16 x.len] 52 rfl)
      have HVq0 := Lib.hid (HV.out.step (al wr (.cells #[.int .u8 x.hub, .int .u8 x.ans, .int .u16 x.aft, .int .u16 x.len] 52)))
      have HGq0 := Lib.hid (HG.out.alloc (.cells #[.int .u8 x.hub, .int .u8 x.ans, .int .u16 x.aft, .int .u16 x.len] 52))
      have HBq0 := Lib.hid (HB.out.alloc hsz (.cells #[.int .u8 x.hub, .int .u8 x.ans, .int .u16 x.aft, .int .u16 x.len] 52))
      have hzq0 : wr.heap.size + 1 = (wr.alloc (.cells #[.int .u8 x.hub, .int .u8 x.ans, .int .u16 x.aft, .int .u16 x.len] 52)).heap.size := by simp
      obtain ⟨wq, hwq⟩ : ∃ wq, wr.alloc (.cells #[.int .u8 x.hub, .int .u8 x.ans, .int .u16 x.aft, .int .u16 x.len] 52) = wq := ⟨_, rfl⟩
      obtain ⟨bt, hbt⟩ : ∃ bt, wr.heap.size = bt := ⟨_, rfl⟩
      have HTB : Hid (Cs wq bt #[.int .u8 x.hub, .int .u8 x.ans, .int .u16 x.aft, .int .u16 x.len]) := by rw [← hwq, ← hbt]; exact HTB0
      have HVq : Hid (VosAt wq u8 L) := by rw [← hwq]; exact HVq0
      have HGq : Hid (wq.ownsRow w.heap.size 45 4 u9 G.length (gcs G)) := by rw [← hwq]; exact HGq0
      have HBq : Hid (Below w.heap.size w wq) := by rw [← hwq]; exact HBq0
      rw [hwq, hbt, hnow2]
      have HNOW := Lib.hid hnow2
      clear HTB0 HVq0 HGq0 HBq0 hzq0 hwq HV HG HB hnow2 x0 x1 x2 x3 hsz hbt
      have e1 := Int.emod_nonneg x.hub (show (n : Int) ≠ 0 by omega)
      have e2 := Int.emod_lt_of_pos x.hub (show (0 : Int) < n by omega)
      go_cut [13, 14, 15] from 18 to 72 (fun p q s wc => ∃ (A : List Bool) (V : List Vo) (h f u er : Int) (r : Value) (m : Nat), p = r ∧ q = .pointer (some ⟨m, 0, none⟩) ∧ s = .int .i64 er ∧ A.length = n ∧ EW L A (x.hub % n) now2 (1 + x.len) V h f u er ∧ Hid (VosAt wc r V) ∧ New wq r ∧ Hid (Cs wc m #[.int .i64 h, .int .i64 f, .int .i64 u]) ∧ Hid (Below wq.heap.size wq wc))
      case first =>
        obtain ⟨lit, hlit⟩ : ∃ lit : Value → Value → Value → Value → Value → Value → Value → Value → Value → Value → Value → Value → Value → Value → Value → Value → Value → Value → Value → Value → Value → Value → Value → Act, lit = fun v34 v35 v36 v37 va v39 v40 v41 v42 v43 v44 v45 v46 v47 v48 v49 v33 v50 v51 v52 v14 v13 v15 => { tmps := #[.int .i64 n, .slice (some ⟨b, off, none⟩) T.length cap, undef, undef, u4, u5, u6, u7, u8, u9, .int .i64 now2, .int .i64 k, .pointer (some ⟨bt, 0, none⟩), v13, v14, v15, .int .i64 n, .slice (some ⟨w.heap.size, 0, none⟩) n n, .int .i64 k, .slice (some ⟨b, off, none⟩) T.length cap, .int .i64 T.length, .bool true, u22, u23, .slice (some ⟨b, off, none⟩) T.length cap, .int .i64 k, .pointer (some ⟨b, off + k * 4, none⟩), .agg #[.int .u8 x.hub, .int .u8 x.ans, .int .u16 x.aft, .int .u16 x.len], .int .i64 now, .pointer (some ⟨bt, 2, none⟩), .int .u16 x.aft, .int .i64 x.aft, .int .i64 now2, v33, v34, v35, v36, v37, va, v39, v40, v41, v42, v43, v44, v45, v46, v47, v48, v49, v50, v51, v52, u53, u54, u55, u56, u57, u58, u59, u60, u61, u62, u63, u64, u65, u66, u67, u68, u69, u70, u71, u72, undef, undef, undef], defers := [] } := ⟨_, rfl⟩
        have HLIT := Lib.hid hlit
        clear hlit
        refine region_inv (fun bf ac wv => ∃ (m : Nat) (A : List Bool) (V : List Vo) (h f u er : Int) (r : Value) (v34 v35 v36 v37 va v39 v40 v41 v42 v43 v44 v45 v46 v47 v48 v49 v33 v50 v51 v52 v14 v13 v15 : Value), ac = lit v34 v35 v36 v37 va v39 v40 v41 v42 v43 v44 v45 v46 v47 v48 v49 v33 v50 v51 v52 v14 v13 v15 ∧ Rg wq wv m v14 (bf 20) (bf 22) #[.int .i64 h, .int .i64 f, .int .i64 u] ∧ Imp chain bf ∧ (bf 4 = true → Ans A n L (x.hub % n) now2 (1 + x.len) V h f u er) ∧ (bf 4 = true → bf 15 = false → BosAt wv va A) ∧ (bf 15 = true → Vt wq wv r V m (bf 20)) ∧ (bf 0 = true → v34 = u8) ∧ (bf 1 = true → v35 = .pointer (some ⟨bt, 1, none⟩)) ∧ (bf 2 = true → v36 = .int .u8 x.ans) ∧ (bf 3 = true → v37 = .int .i64 n) ∧ (bf 5 = true → v39 = .pointer (some ⟨bt, 0, none⟩)) ∧ (bf 6 = true → v40 = .int .u8 x.hub) ∧ (bf 7 = true → v41 = .int .i64 x.hub) ∧ (bf 8 = true → v42 = .int .i64 n) ∧ (bf 9 = true → v43 = .int .i64 (x.hub % n)) ∧ (bf 10 = true → v44 = .int .i64 now2) ∧ (bf 11 = true → v45 = .pointer (some ⟨bt, 3, none⟩)) ∧ (bf 12 = true → v46 = .int .u16 x.len) ∧ (bf 13 = true → v47 = .int .i64 x.len) ∧ (bf 14 = true → v48 = .int .i64 (1 + x.len)) ∧ (bf 15 = true → v49 = .tuple #[r, .agg #[.int .i64 h, .int .i64 f, .int .i64 u], .int .i64 er]) ∧ (bf 16 = true → v33 = .tuple #[r, .agg #[.int .i64 h, .int .i64 f, .int .i64 u], .int .i64 er]) ∧ (bf 17 = true → v50 = r) ∧ (bf 18 = true → v51 = .agg #[.int .i64 h, .int .i64 f, .int .i64 u]) ∧ (bf 19 = true → v52 = .int .i64 er) ∧ (bf 21 = true → v13 = r) ∧ (bf 23 = true → v15 = .int .i64 er)) (by kernel_rfl) (by decide +kernel) ?_ ?_ ?_
        · exact ⟨_, [], [], 0, 0, 0, 0, .bool false, u34, u35, u36, u37, u38, u39, u40, u41, u42, u43, u44, u45, u46, u47, u48, u49, u33, u50, u51, u52, u14, u13, u15, (by rw [HLIT.out]), Rg.start _ _ _, Imp.start _, (by simp), (by simp), (by simp), (by simp), (by simp), (by simp), (by simp), (by simp), (by simp), (by simp), (by simp), (by simp), (by simp), (by simp), (by simp), (by simp), (by simp), (by simp), (by simp), (by simp), (by simp), (by simp), (by simp), (by simp)⟩
        · refine ⟨?_, ?_, ?_, ?_, ?_, ?_, ?_, ?_, ?_, ?_, ?_, ?_, ?_, ?_, ?_, ?_, ?_, ?_, ?_, ?_, ?_, ?_, ?_, ?_, trivial⟩
          · intro bf ac wv hfb haf hJ K' hK
            obtain ⟨m, hJ⟩ := hJ
            obtain ⟨A, hJ⟩ := hJ
            obtain ⟨V, hJ⟩ := hJ
            obtain ⟨h, hJ⟩ := hJ
            obtain ⟨f, hJ⟩ := hJ
            obtain ⟨u, hJ⟩ := hJ
            obtain ⟨er, hJ⟩ := hJ
            obtain ⟨r, hJ⟩ := hJ
            obtain ⟨v34, hJ⟩ := hJ
            obtain ⟨v35, hJ⟩ := hJ
            obtain ⟨v36, hJ⟩ := hJ
            obtain ⟨v37, hJ⟩ := hJ
            obtain ⟨va, hJ⟩ := hJ
            obtain ⟨v39, hJ⟩ := hJ
            obtain ⟨v40, hJ⟩ := hJ
            obtain ⟨v41, hJ⟩ := hJ
            obtain ⟨v42, hJ⟩ := hJ
            obtain ⟨v43, hJ⟩ := hJ
            obtain ⟨v44, hJ⟩ := hJ
            obtain ⟨v45, hJ⟩ := hJ
            obtain ⟨v46, hJ⟩ := hJ
            obtain ⟨v47, hJ⟩ := hJ
            obtain ⟨v48, hJ⟩ := hJ
            obtain ⟨v49, hJ⟩ := hJ
            obtain ⟨v33, hJ⟩ := hJ
            obtain ⟨v50, hJ⟩ := hJ
            obtain ⟨v51, hJ⟩ := hJ
            obtain ⟨v52, hJ⟩ := hJ
            obtain ⟨v14, hJ⟩ := hJ
            obtain ⟨v13, hJ⟩ := hJ
            obtain ⟨v15, hJ⟩ := hJ
            obtain ⟨rfl, hJ⟩ := hJ
            obtain ⟨hM, hJ⟩ := hJ
            obtain ⟨hI, hJ⟩ := hJ
            obtain ⟨hS, hJ⟩ := hJ
            obtain ⟨hQ, hJ⟩ := hJ
            obtain ⟨hT, hJ⟩ := hJ
            obtain ⟨g0, hJ⟩ := hJ
            obtain ⟨g1, hJ⟩ := hJ
            obtain ⟨g2, hJ⟩ := hJ
            obtain ⟨g3, hJ⟩ := hJ
            obtain ⟨g5, hJ⟩ := hJ
            obtain ⟨g6, hJ⟩ := hJ
            obtain ⟨g7, hJ⟩ := hJ
            obtain ⟨g8, hJ⟩ := hJ
            obtain ⟨g9, hJ⟩ := hJ
            obtain ⟨g10, hJ⟩ := hJ
            obtain ⟨g11, hJ⟩ := hJ
            obtain ⟨g12, hJ⟩ := hJ
            obtain ⟨g13, hJ⟩ := hJ
            obtain ⟨g14, hJ⟩ := hJ
            obtain ⟨g15, hJ⟩ := hJ
            obtain ⟨g16, hJ⟩ := hJ
            obtain ⟨g17, hJ⟩ := hJ
            obtain ⟨g18, hJ⟩ := hJ
            obtain ⟨g19, hJ⟩ := hJ
            obtain ⟨g21, hJ⟩ := hJ
            have g23 := hJ
            clear hJ
            replace hK := Lib.hid hK
            replace hM := Lib.hid hM
            replace hI := Lib.hid hI
            replace hS := Lib.hid hS
            replace hQ := Lib.hid hQ
            replace hT := Lib.hid hT
            replace hfb := Lib.hid hfb
            replace g0 := Lib.hid g0
            replace g1 := Lib.hid g1
            replace g2 := Lib.hid g2
            replace g3 := Lib.hid g3
            replace g5 := Lib.hid g5
            replace g6 := Lib.hid g6
            replace g7 := Lib.hid g7
            replace g8 := Lib.hid g8
            replace g9 := Lib.hid g9
            replace g10 := Lib.hid g10
            replace g11 := Lib.hid g11
            replace g12 := Lib.hid g12
            replace g13 := Lib.hid g13
            replace g14 := Lib.hid g14
            replace g15 := Lib.hid g15
            replace g16 := Lib.hid g16
            replace g17 := Lib.hid g17
            replace g18 := Lib.hid g18
            replace g19 := Lib.hid g19
            replace g21 := Lib.hid g21
            replace g23 := Lib.hid g23
            clear haf
            rw [HLIT.out]
            go_simp
            exact hK.out _ _ ⟨m, A, V, h, f, u, er, r, u8, v35, v36, v37, va, v39, v40, v41, v42, v43, v44, v45, v46, v47, v48, v49, v33, v50, v51, v52, v14, v13, v15, (by rw [HLIT.out]), hM.out, (imp_free 0 hI.out (by decide)), hS.out, hQ.out, hT.out, fun _ => rfl, g1.out, g2.out, g3.out, g5.out, g6.out, g7.out, g8.out, g9.out, g10.out, g11.out, g12.out, g13.out, g14.out, g15.out, g16.out, g17.out, g18.out, g19.out, g21.out, g23.out⟩
          · intro bf ac wv hfb haf hJ K' hK
            obtain ⟨m, hJ⟩ := hJ
            obtain ⟨A, hJ⟩ := hJ
            obtain ⟨V, hJ⟩ := hJ
            obtain ⟨h, hJ⟩ := hJ
            obtain ⟨f, hJ⟩ := hJ
            obtain ⟨u, hJ⟩ := hJ
            obtain ⟨er, hJ⟩ := hJ
            obtain ⟨r, hJ⟩ := hJ
            obtain ⟨v34, hJ⟩ := hJ
            obtain ⟨v35, hJ⟩ := hJ
            obtain ⟨v36, hJ⟩ := hJ
            obtain ⟨v37, hJ⟩ := hJ
            obtain ⟨va, hJ⟩ := hJ
            obtain ⟨v39, hJ⟩ := hJ
            obtain ⟨v40, hJ⟩ := hJ
            obtain ⟨v41, hJ⟩ := hJ
            obtain ⟨v42, hJ⟩ := hJ
            obtain ⟨v43, hJ⟩ := hJ
            obtain ⟨v44, hJ⟩ := hJ
            obtain ⟨v45, hJ⟩ := hJ
            obtain ⟨v46, hJ⟩ := hJ
            obtain ⟨v47, hJ⟩ := hJ
            obtain ⟨v48, hJ⟩ := hJ
            obtain ⟨v49, hJ⟩ := hJ
            obtain ⟨v33, hJ⟩ := hJ
            obtain ⟨v50, hJ⟩ := hJ
            obtain ⟨v51, hJ⟩ := hJ
            obtain ⟨v52, hJ⟩ := hJ
            obtain ⟨v14, hJ⟩ := hJ
            obtain ⟨v13, hJ⟩ := hJ
            obtain ⟨v15, hJ⟩ := hJ
            obtain ⟨rfl, hJ⟩ := hJ
            obtain ⟨hM, hJ⟩ := hJ
            obtain ⟨hI, hJ⟩ := hJ
            obtain ⟨hS, hJ⟩ := hJ
            obtain ⟨hQ, hJ⟩ := hJ
            obtain ⟨hT, hJ⟩ := hJ
            obtain ⟨g0, hJ⟩ := hJ
            obtain ⟨g1, hJ⟩ := hJ
            obtain ⟨g2, hJ⟩ := hJ
            obtain ⟨g3, hJ⟩ := hJ
            obtain ⟨g5, hJ⟩ := hJ
            obtain ⟨g6, hJ⟩ := hJ
            obtain ⟨g7, hJ⟩ := hJ
            obtain ⟨g8, hJ⟩ := hJ
            obtain ⟨g9, hJ⟩ := hJ
            obtain ⟨g10, hJ⟩ := hJ
            obtain ⟨g11, hJ⟩ := hJ
            obtain ⟨g12, hJ⟩ := hJ
            obtain ⟨g13, hJ⟩ := hJ
            obtain ⟨g14, hJ⟩ := hJ
            obtain ⟨g15, hJ⟩ := hJ
            obtain ⟨g16, hJ⟩ := hJ
            obtain ⟨g17, hJ⟩ := hJ
            obtain ⟨g18, hJ⟩ := hJ
            obtain ⟨g19, hJ⟩ := hJ
            obtain ⟨g21, hJ⟩ := hJ
            have g23 := hJ
            clear hJ
            replace hK := Lib.hid hK
            replace hM := Lib.hid hM
            replace hI := Lib.hid hI
            replace hS := Lib.hid hS
            replace hQ := Lib.hid hQ
            replace hT := Lib.hid hT
            replace hfb := Lib.hid hfb
            replace g0 := Lib.hid g0
            replace g1 := Lib.hid g1
            replace g2 := Lib.hid g2
            replace g3 := Lib.hid g3
            replace g5 := Lib.hid g5
            replace g6 := Lib.hid g6
            replace g7 := Lib.hid g7
            replace g8 := Lib.hid g8
            replace g9 := Lib.hid g9
            replace g10 := Lib.hid g10
            replace g11 := Lib.hid g11
            replace g12 := Lib.hid g12
            replace g13 := Lib.hid g13
            replace g14 := Lib.hid g14
            replace g15 := Lib.hid g15
            replace g16 := Lib.hid g16
            replace g17 := Lib.hid g17
            replace g18 := Lib.hid g18
            replace g19 := Lib.hid g19
            replace g21 := Lib.hid g21
            replace g23 := Lib.hid g23
            clear haf
            rw [HLIT.out]
            go_simp
            exact hK.out _ _ ⟨m, A, V, h, f, u, er, r, v34, .pointer (some ⟨bt, 1, none⟩), v36, v37, va, v39, v40, v41, v42, v43, v44, v45, v46, v47, v48, v49, v33, v50, v51, v52, v14, v13, v15, (by rw [HLIT.out]), hM.out, (imp_free 1 hI.out (by decide)), hS.out, hQ.out, hT.out, g0.out, fun _ => rfl, g2.out, g3.out, g5.out, g6.out, g7.out, g8.out, g9.out, g10.out, g11.out, g12.out, g13.out, g14.out, g15.out, g16.out, g17.out, g18.out, g19.out, g21.out, g23.out⟩
          · intro bf ac wv hfb haf hJ K' hK
            obtain ⟨m, hJ⟩ := hJ
            obtain ⟨A, hJ⟩ := hJ
            obtain ⟨V, hJ⟩ := hJ
            obtain ⟨h, hJ⟩ := hJ
            obtain ⟨f, hJ⟩ := hJ
            obtain ⟨u, hJ⟩ := hJ
            obtain ⟨er, hJ⟩ := hJ
            obtain ⟨r, hJ⟩ := hJ
            obtain ⟨v34, hJ⟩ := hJ
            obtain ⟨v35, hJ⟩ := hJ
            obtain ⟨v36, hJ⟩ := hJ
            obtain ⟨v37, hJ⟩ := hJ
            obtain ⟨va, hJ⟩ := hJ
            obtain ⟨v39, hJ⟩ := hJ
            obtain ⟨v40, hJ⟩ := hJ
            obtain ⟨v41, hJ⟩ := hJ
            obtain ⟨v42, hJ⟩ := hJ
            obtain ⟨v43, hJ⟩ := hJ
            obtain ⟨v44, hJ⟩ := hJ
            obtain ⟨v45, hJ⟩ := hJ
            obtain ⟨v46, hJ⟩ := hJ
            obtain ⟨v47, hJ⟩ := hJ
            obtain ⟨v48, hJ⟩ := hJ
            obtain ⟨v49, hJ⟩ := hJ
            obtain ⟨v33, hJ⟩ := hJ
            obtain ⟨v50, hJ⟩ := hJ
            obtain ⟨v51, hJ⟩ := hJ
            obtain ⟨v52, hJ⟩ := hJ
            obtain ⟨v14, hJ⟩ := hJ
            obtain ⟨v13, hJ⟩ := hJ
            obtain ⟨v15, hJ⟩ := hJ
            obtain ⟨rfl, hJ⟩ := hJ
            obtain ⟨hM, hJ⟩ := hJ
            obtain ⟨hI, hJ⟩ := hJ
            obtain ⟨hS, hJ⟩ := hJ
            obtain ⟨hQ, hJ⟩ := hJ
            obtain ⟨hT, hJ⟩ := hJ
            obtain ⟨g0, hJ⟩ := hJ
            obtain ⟨g1, hJ⟩ := hJ
            obtain ⟨g2, hJ⟩ := hJ
            obtain ⟨g3, hJ⟩ := hJ
            obtain ⟨g5, hJ⟩ := hJ
            obtain ⟨g6, hJ⟩ := hJ
            obtain ⟨g7, hJ⟩ := hJ
            obtain ⟨g8, hJ⟩ := hJ
            obtain ⟨g9, hJ⟩ := hJ
            obtain ⟨g10, hJ⟩ := hJ
            obtain ⟨g11, hJ⟩ := hJ
            obtain ⟨g12, hJ⟩ := hJ
            obtain ⟨g13, hJ⟩ := hJ
            obtain ⟨g14, hJ⟩ := hJ
            obtain ⟨g15, hJ⟩ := hJ
            obtain ⟨g16, hJ⟩ := hJ
            obtain ⟨g17, hJ⟩ := hJ
            obtain ⟨g18, hJ⟩ := hJ
            obtain ⟨g19, hJ⟩ := hJ
            obtain ⟨g21, hJ⟩ := hJ
            have g23 := hJ
            clear hJ
            replace hK := Lib.hid hK
            replace hM := Lib.hid hM
            replace hI := Lib.hid hI
            replace hS := Lib.hid hS
            replace hQ := Lib.hid hQ
            replace hT := Lib.hid hT
            replace hfb := Lib.hid hfb
            replace g0 := Lib.hid g0
            replace g1 := Lib.hid g1
            replace g2 := Lib.hid g2
            replace g3 := Lib.hid g3
            replace g5 := Lib.hid g5
            replace g6 := Lib.hid g6
            replace g7 := Lib.hid g7
            replace g8 := Lib.hid g8
            replace g9 := Lib.hid g9
            replace g10 := Lib.hid g10
            replace g11 := Lib.hid g11
            replace g12 := Lib.hid g12
            replace g13 := Lib.hid g13
            replace g14 := Lib.hid g14
            replace g15 := Lib.hid g15
            replace g16 := Lib.hid g16
            replace g17 := Lib.hid g17
            replace g18 := Lib.hid g18
            replace g19 := Lib.hid g19
            replace g21 := Lib.hid g21
            replace g23 := Lib.hid g23
            simp [Region.binds] at haf
            have hb1 := Lib.hid (show bf 1 = true by simp [haf])
            clear haf
            obtain rfl := (g1.out hb1.out).symm
            rw [HLIT.out]
            have hA := HTB.out.step hM.out.below
            have xA := hA.c 1 rfl
            have zA := hA.2.2
            clear hA
            go_simp
            exact hK.out _ _ ⟨m, A, V, h, f, u, er, r, v34, .pointer (some ⟨bt, 1, none⟩), .int .u8 x.ans, v37, va, v39, v40, v41, v42, v43, v44, v45, v46, v47, v48, v49, v33, v50, v51, v52, v14, v13, v15, (by rw [HLIT.out]), hM.out, (imp_free 2 hI.out (by decide)), hS.out, hQ.out, hT.out, g0.out, g1.out, fun _ => rfl, g3.out, g5.out, g6.out, g7.out, g8.out, g9.out, g10.out, g11.out, g12.out, g13.out, g14.out, g15.out, g16.out, g17.out, g18.out, g19.out, g21.out, g23.out⟩
          · intro bf ac wv hfb haf hJ K' hK
            obtain ⟨m, hJ⟩ := hJ
            obtain ⟨A, hJ⟩ := hJ
            obtain ⟨V, hJ⟩ := hJ
            obtain ⟨h, hJ⟩ := hJ
            obtain ⟨f, hJ⟩ := hJ
            obtain ⟨u, hJ⟩ := hJ
            obtain ⟨er, hJ⟩ := hJ
            obtain ⟨r, hJ⟩ := hJ
            obtain ⟨v34, hJ⟩ := hJ
            obtain ⟨v35, hJ⟩ := hJ
            obtain ⟨v36, hJ⟩ := hJ
            obtain ⟨v37, hJ⟩ := hJ
            obtain ⟨va, hJ⟩ := hJ
            obtain ⟨v39, hJ⟩ := hJ
            obtain ⟨v40, hJ⟩ := hJ
            obtain ⟨v41, hJ⟩ := hJ
            obtain ⟨v42, hJ⟩ := hJ
            obtain ⟨v43, hJ⟩ := hJ
            obtain ⟨v44, hJ⟩ := hJ
            obtain ⟨v45, hJ⟩ := hJ
            obtain ⟨v46, hJ⟩ := hJ
            obtain ⟨v47, hJ⟩ := hJ
            obtain ⟨v48, hJ⟩ := hJ
            obtain ⟨v49, hJ⟩ := hJ
            obtain ⟨v33, hJ⟩ := hJ
            obtain ⟨v50, hJ⟩ := hJ
            obtain ⟨v51, hJ⟩ := hJ
            obtain ⟨v52, hJ⟩ := hJ
            obtain ⟨v14, hJ⟩ := hJ
            obtain ⟨v13, hJ⟩ := hJ
            obtain ⟨v15, hJ⟩ := hJ
            obtain ⟨rfl, hJ⟩ := hJ
            obtain ⟨hM, hJ⟩ := hJ
            obtain ⟨hI, hJ⟩ := hJ
            obtain ⟨hS, hJ⟩ := hJ
            obtain ⟨hQ, hJ⟩ := hJ
            obtain ⟨hT, hJ⟩ := hJ
            obtain ⟨g0, hJ⟩ := hJ
            obtain ⟨g1, hJ⟩ := hJ
            obtain ⟨g2, hJ⟩ := hJ
            obtain ⟨g3, hJ⟩ := hJ
            obtain ⟨g5, hJ⟩ := hJ
            obtain ⟨g6, hJ⟩ := hJ
            obtain ⟨g7, hJ⟩ := hJ
            obtain ⟨g8, hJ⟩ := hJ
            obtain ⟨g9, hJ⟩ := hJ
            obtain ⟨g10, hJ⟩ := hJ
            obtain ⟨g11, hJ⟩ := hJ
            obtain ⟨g12, hJ⟩ := hJ
            obtain ⟨g13, hJ⟩ := hJ
            obtain ⟨g14, hJ⟩ := hJ
            obtain ⟨g15, hJ⟩ := hJ
            obtain ⟨g16, hJ⟩ := hJ
            obtain ⟨g17, hJ⟩ := hJ
            obtain ⟨g18, hJ⟩ := hJ
            obtain ⟨g19, hJ⟩ := hJ
            obtain ⟨g21, hJ⟩ := hJ
            have g23 := hJ
            clear hJ
            replace hK := Lib.hid hK
            replace hM := Lib.hid hM
            replace hI := Lib.hid hI
            replace hS := Lib.hid hS
            replace hQ := Lib.hid hQ
            replace hT := Lib.hid hT
            replace hfb := Lib.hid hfb
            replace g0 := Lib.hid g0
            replace g1 := Lib.hid g1
            replace g2 := Lib.hid g2
            replace g3 := Lib.hid g3
            replace g5 := Lib.hid g5
            replace g6 := Lib.hid g6
            replace g7 := Lib.hid g7
            replace g8 := Lib.hid g8
            replace g9 := Lib.hid g9
            replace g10 := Lib.hid g10
            replace g11 := Lib.hid g11
            replace g12 := Lib.hid g12
            replace g13 := Lib.hid g13
            replace g14 := Lib.hid g14
            replace g15 := Lib.hid g15
            replace g16 := Lib.hid g16
            replace g17 := Lib.hid g17
            replace g18 := Lib.hid g18
            replace g19 := Lib.hid g19
            replace g21 := Lib.hid g21
            replace g23 := Lib.hid g23
            clear haf
            rw [HLIT.out]
            go_simp
            exact hK.out _ _ ⟨m, A, V, h, f, u, er, r, v34, v35, v36, .int .i64 n, va, v39, v40, v41, v42, v43, v44, v45, v46, v47, v48, v49, v33, v50, v51, v52, v14, v13, v15, (by rw [HLIT.out]), hM.out, (imp_free 3 hI.out (by decide)), hS.out, hQ.out, hT.out, g0.out, g1.out, g2.out, fun _ => rfl, g5.out, g6.out, g7.out, g8.out, g9.out, g10.out, g11.out, g12.out, g13.out, g14.out, g15.out, g16.out, g17.out, g18.out, g19.out, g21.out, g23.out⟩
          · intro bf ac wv hfb haf hJ K' hK
            obtain ⟨m, hJ⟩ := hJ
            obtain ⟨A, hJ⟩ := hJ
            obtain ⟨V, hJ⟩ := hJ
            obtain ⟨h, hJ⟩ := hJ
            obtain ⟨f, hJ⟩ := hJ
            obtain ⟨u, hJ⟩ := hJ
            obtain ⟨er, hJ⟩ := hJ
            obtain ⟨r, hJ⟩ := hJ
            obtain ⟨v34, hJ⟩ := hJ
            obtain ⟨v35, hJ⟩ := hJ
            obtain ⟨v36, hJ⟩ := hJ
            obtain ⟨v37, hJ⟩ := hJ
            obtain ⟨va, hJ⟩ := hJ
            obtain ⟨v39, hJ⟩ := hJ
            obtain ⟨v40, hJ⟩ := hJ
            obtain ⟨v41, hJ⟩ := hJ
            obtain ⟨v42, hJ⟩ := hJ
            obtain ⟨v43, hJ⟩ := hJ
            obtain ⟨v44, hJ⟩ := hJ
            obtain ⟨v45, hJ⟩ := hJ
            obtain ⟨v46, hJ⟩ := hJ
            obtain ⟨v47, hJ⟩ := hJ
            obtain ⟨v48, hJ⟩ := hJ
            obtain ⟨v49, hJ⟩ := hJ
            obtain ⟨v33, hJ⟩ := hJ
            obtain ⟨v50, hJ⟩ := hJ
            obtain ⟨v51, hJ⟩ := hJ
            obtain ⟨v52, hJ⟩ := hJ
            obtain ⟨v14, hJ⟩ := hJ
            obtain ⟨v13, hJ⟩ := hJ
            obtain ⟨v15, hJ⟩ := hJ
            obtain ⟨rfl, hJ⟩ := hJ
            obtain ⟨hM, hJ⟩ := hJ
            obtain ⟨hI, hJ⟩ := hJ
            obtain ⟨hS, hJ⟩ := hJ
            obtain ⟨hQ, hJ⟩ := hJ
            obtain ⟨hT, hJ⟩ := hJ
            obtain ⟨g0, hJ⟩ := hJ
            obtain ⟨g1, hJ⟩ := hJ
            obtain ⟨g2, hJ⟩ := hJ
            obtain ⟨g3, hJ⟩ := hJ
            obtain ⟨g5, hJ⟩ := hJ
            obtain ⟨g6, hJ⟩ := hJ
            obtain ⟨g7, hJ⟩ := hJ
            obtain ⟨g8, hJ⟩ := hJ
            obtain ⟨g9, hJ⟩ := hJ
            obtain ⟨g10, hJ⟩ := hJ
            obtain ⟨g11, hJ⟩ := hJ
            obtain ⟨g12, hJ⟩ := hJ
            obtain ⟨g13, hJ⟩ := hJ
            obtain ⟨g14, hJ⟩ := hJ
            obtain ⟨g15, hJ⟩ := hJ
            obtain ⟨g16, hJ⟩ := hJ
            obtain ⟨g17, hJ⟩ := hJ
            obtain ⟨g18, hJ⟩ := hJ
            obtain ⟨g19, hJ⟩ := hJ
            obtain ⟨g21, hJ⟩ := hJ
            have g23 := hJ
            clear hJ
            replace hK := Lib.hid hK
            replace hM := Lib.hid hM
            replace hI := Lib.hid hI
            replace hS := Lib.hid hS
            replace hQ := Lib.hid hQ
            replace hT := Lib.hid hT
            replace hfb := Lib.hid hfb
            replace g0 := Lib.hid g0
            replace g1 := Lib.hid g1
            replace g2 := Lib.hid g2
            replace g3 := Lib.hid g3
            replace g5 := Lib.hid g5
            replace g6 := Lib.hid g6
            replace g7 := Lib.hid g7
            replace g8 := Lib.hid g8
            replace g9 := Lib.hid g9
            replace g10 := Lib.hid g10
            replace g11 := Lib.hid g11
            replace g12 := Lib.hid g12
            replace g13 := Lib.hid g13
            replace g14 := Lib.hid g14
            replace g15 := Lib.hid g15
            replace g16 := Lib.hid g16
            replace g17 := Lib.hid g17
            replace g18 := Lib.hid g18
            replace g19 := Lib.hid g19
            replace g21 := Lib.hid g21
            replace g23 := Lib.hid g23
            simp [Region.binds] at haf
            have hb2 := Lib.hid (show bf 2 = true by simp [haf])
            have hb3 := Lib.hid (show bf 3 = true by simp [haf])
            clear haf
            obtain rfl := (g2.out hb2.out).symm
            obtain rfl := (g3.out hb3.out).symm
            rw [HLIT.out]
            have n15 := Lib.hid (hI.out.no 15 4 (by simp [chain]) hfb.out)
            have n16 := Lib.hid (hI.out.no 16 15 (by simp [chain]) n15.out)
            have n17 := Lib.hid (hI.out.no 17 16 (by simp [chain]) n16.out)
            have n18 := Lib.hid (hI.out.no 18 16 (by simp [chain]) n16.out)
            have n19 := Lib.hid (hI.out.no 19 16 (by simp [chain]) n16.out)
            have n21 := Lib.hid (hI.out.no 21 17 (by simp [chain]) n17.out)
            have n22 := Lib.hid (hI.out.no 22 18 (by simp [chain]) n18.out)
            have n23 := Lib.hid (hI.out.no 23 19 (by simp [chain]) n19.out)
            go_simp
            go_at_call 20
            refine (answers_any x.ans n _ p3 p4 h3).mono ?_
            rintro e w4 ⟨ra, A4, rfl, hA4, hA5, b4⟩
            obtain ⟨V4, h4, f4, u4, er4, hE4⟩ := ew_total L A4 (x.hub % n) now2 (1 + x.len)
            exact hK.out _ _ ⟨m, A4, V4, h4, f4, u4, er4, r, v34, v35, .int .u8 x.ans, .int .i64 n, ra, v39, v40, v41, v42, v43, v44, v45, v46, v47, v48, v49, v33, v50, v51, v52, v14, v13, v15, (by rw [HLIT.out]), ((hM.out.step b4).swap n22.out), (imp_free 4 hI.out (by decide)), fun _ => ⟨hA5, hE4⟩, fun _ _ => hA4, no_of n15.out, g0.out, g1.out, g2.out, g3.out, g5.out, g6.out, g7.out, g8.out, g9.out, g10.out, g11.out, g12.out, g13.out, g14.out, no_of n15.out, no_of n16.out, no_of n17.out, no_of n18.out, no_of n19.out, no_of n21.out, no_of n23.out⟩
          · intro bf ac wv hfb haf hJ K' hK
            obtain ⟨m, hJ⟩ := hJ
            obtain ⟨A, hJ⟩ := hJ
            obtain ⟨V, hJ⟩ := hJ
            obtain ⟨h, hJ⟩ := hJ
            obtain ⟨f, hJ⟩ := hJ
            obtain ⟨u, hJ⟩ := hJ
            obtain ⟨er, hJ⟩ := hJ
            obtain ⟨r, hJ⟩ := hJ
            obtain ⟨v34, hJ⟩ := hJ
            obtain ⟨v35, hJ⟩ := hJ
            obtain ⟨v36, hJ⟩ := hJ
            obtain ⟨v37, hJ⟩ := hJ
            obtain ⟨va, hJ⟩ := hJ
            obtain ⟨v39, hJ⟩ := hJ
            obtain ⟨v40, hJ⟩ := hJ
            obtain ⟨v41, hJ⟩ := hJ
            obtain ⟨v42, hJ⟩ := hJ
            obtain ⟨v43, hJ⟩ := hJ
            obtain ⟨v44, hJ⟩ := hJ
            obtain ⟨v45, hJ⟩ := hJ
            obtain ⟨v46, hJ⟩ := hJ
            obtain ⟨v47, hJ⟩ := hJ
            obtain ⟨v48, hJ⟩ := hJ
            obtain ⟨v49, hJ⟩ := hJ
            obtain ⟨v33, hJ⟩ := hJ
            obtain ⟨v50, hJ⟩ := hJ
            obtain ⟨v51, hJ⟩ := hJ
            obtain ⟨v52, hJ⟩ := hJ
            obtain ⟨v14, hJ⟩ := hJ
            obtain ⟨v13, hJ⟩ := hJ
            obtain ⟨v15, hJ⟩ := hJ
            obtain ⟨rfl, hJ⟩ := hJ
            obtain ⟨hM, hJ⟩ := hJ
            obtain ⟨hI, hJ⟩ := hJ
            obtain ⟨hS, hJ⟩ := hJ
            obtain ⟨hQ, hJ⟩ := hJ
            obtain ⟨hT, hJ⟩ := hJ
            obtain ⟨g0, hJ⟩ := hJ
            obtain ⟨g1, hJ⟩ := hJ
            obtain ⟨g2, hJ⟩ := hJ
            obtain ⟨g3, hJ⟩ := hJ
            obtain ⟨g5, hJ⟩ := hJ
            obtain ⟨g6, hJ⟩ := hJ
            obtain ⟨g7, hJ⟩ := hJ
            obtain ⟨g8, hJ⟩ := hJ
            obtain ⟨g9, hJ⟩ := hJ
            obtain ⟨g10, hJ⟩ := hJ
            obtain ⟨g11, hJ⟩ := hJ
            obtain ⟨g12, hJ⟩ := hJ
            obtain ⟨g13, hJ⟩ := hJ
            obtain ⟨g14, hJ⟩ := hJ
            obtain ⟨g15, hJ⟩ := hJ
            obtain ⟨g16, hJ⟩ := hJ
            obtain ⟨g17, hJ⟩ := hJ
            obtain ⟨g18, hJ⟩ := hJ
            obtain ⟨g19, hJ⟩ := hJ
            obtain ⟨g21, hJ⟩ := hJ
            have g23 := hJ
            clear hJ
            replace hK := Lib.hid hK
            replace hM := Lib.hid hM
            replace hI := Lib.hid hI
            replace hS := Lib.hid hS
            replace hQ := Lib.hid hQ
            replace hT := Lib.hid hT
            replace hfb := Lib.hid hfb
            replace g0 := Lib.hid g0
            replace g1 := Lib.hid g1
            replace g2 := Lib.hid g2
            replace g3 := Lib.hid g3
            replace g5 := Lib.hid g5
            replace g6 := Lib.hid g6
            replace g7 := Lib.hid g7
            replace g8 := Lib.hid g8
            replace g9 := Lib.hid g9
            replace g10 := Lib.hid g10
            replace g11 := Lib.hid g11
            replace g12 := Lib.hid g12
            replace g13 := Lib.hid g13
            replace g14 := Lib.hid g14
            replace g15 := Lib.hid g15
            replace g16 := Lib.hid g16
            replace g17 := Lib.hid g17
            replace g18 := Lib.hid g18
            replace g19 := Lib.hid g19
            replace g21 := Lib.hid g21
            replace g23 := Lib.hid g23
            clear haf
            rw [HLIT.out]
            go_simp
            exact hK.out _ _ ⟨m, A, V, h, f, u, er, r, v34, v35, v36, v37, va, .pointer (some ⟨bt, 0, none⟩), v40, v41, v42, v43, v44, v45, v46, v47, v48, v49, v33, v50, v51, v52, v14, v13, v15, (by rw [HLIT.out]), hM.out, (imp_free 5 hI.out (by decide)), hS.out, hQ.out, hT.out, g0.out, g1.out, g2.out, g3.out, fun _ => rfl, g6.out, g7.out, g8.out, g9.out, g10.out, g11.out, g12.out, g13.out, g14.out, g15.out, g16.out, g17.out, g18.out, g19.out, g21.out, g23.out⟩
          · intro bf ac wv hfb haf hJ K' hK
            obtain ⟨m, hJ⟩ := hJ
            obtain ⟨A, hJ⟩ := hJ
            obtain ⟨V, hJ⟩ := hJ
            obtain ⟨h, hJ⟩ := hJ
            obtain ⟨f, hJ⟩ := hJ
            obtain ⟨u, hJ⟩ := hJ
            obtain ⟨er, hJ⟩ := hJ
            obtain ⟨r, hJ⟩ := hJ
            obtain ⟨v34, hJ⟩ := hJ
            obtain ⟨v35, hJ⟩ := hJ
            obtain ⟨v36, hJ⟩ := hJ
            obtain ⟨v37, hJ⟩ := hJ
            obtain ⟨va, hJ⟩ := hJ
            obtain ⟨v39, hJ⟩ := hJ
            obtain ⟨v40, hJ⟩ := hJ
            obtain ⟨v41, hJ⟩ := hJ
            obtain ⟨v42, hJ⟩ := hJ
            obtain ⟨v43, hJ⟩ := hJ
            obtain ⟨v44, hJ⟩ := hJ
            obtain ⟨v45, hJ⟩ := hJ
            obtain ⟨v46, hJ⟩ := hJ
            obtain ⟨v47, hJ⟩ := hJ
            obtain ⟨v48, hJ⟩ := hJ
            obtain ⟨v49, hJ⟩ := hJ
            obtain ⟨v33, hJ⟩ := hJ
            obtain ⟨v50, hJ⟩ := hJ
            obtain ⟨v51, hJ⟩ := hJ
            obtain ⟨v52, hJ⟩ := hJ
            obtain ⟨v14, hJ⟩ := hJ
            obtain ⟨v13, hJ⟩ := hJ
            obtain ⟨v15, hJ⟩ := hJ
            obtain ⟨rfl, hJ⟩ := hJ
            obtain ⟨hM, hJ⟩ := hJ
            obtain ⟨hI, hJ⟩ := hJ
            obtain ⟨hS, hJ⟩ := hJ
            obtain ⟨hQ, hJ⟩ := hJ
            obtain ⟨hT, hJ⟩ := hJ
            obtain ⟨g0, hJ⟩ := hJ
            obtain ⟨g1, hJ⟩ := hJ
            obtain ⟨g2, hJ⟩ := hJ
            obtain ⟨g3, hJ⟩ := hJ
            obtain ⟨g5, hJ⟩ := hJ
            obtain ⟨g6, hJ⟩ := hJ
            obtain ⟨g7, hJ⟩ := hJ
            obtain ⟨g8, hJ⟩ := hJ
            obtain ⟨g9, hJ⟩ := hJ
            obtain ⟨g10, hJ⟩ := hJ
            obtain ⟨g11, hJ⟩ := hJ
            obtain ⟨g12, hJ⟩ := hJ
            obtain ⟨g13, hJ⟩ := hJ
            obtain ⟨g14, hJ⟩ := hJ
            obtain ⟨g15, hJ⟩ := hJ
            obtain ⟨g16, hJ⟩ := hJ
            obtain ⟨g17, hJ⟩ := hJ
            obtain ⟨g18, hJ⟩ := hJ
            obtain ⟨g19, hJ⟩ := hJ
            obtain ⟨g21, hJ⟩ := hJ
            have g23 := hJ
            clear hJ
            replace hK := Lib.hid hK
            replace hM := Lib.hid hM
            replace hI := Lib.hid hI
            replace hS := Lib.hid hS
            replace hQ := Lib.hid hQ
            replace hT := Lib.hid hT
            replace hfb := Lib.hid hfb
            replace g0 := Lib.hid g0
            replace g1 := Lib.hid g1
            replace g2 := Lib.hid g2
            replace g3 := Lib.hid g3
            replace g5 := Lib.hid g5
            replace g6 := Lib.hid g6
            replace g7 := Lib.hid g7
            replace g8 := Lib.hid g8
            replace g9 := Lib.hid g9
            replace g10 := Lib.hid g10
            replace g11 := Lib.hid g11
            replace g12 := Lib.hid g12
            replace g13 := Lib.hid g13
            replace g14 := Lib.hid g14
            replace g15 := Lib.hid g15
            replace g16 := Lib.hid g16
            replace g17 := Lib.hid g17
            replace g18 := Lib.hid g18
            replace g19 := Lib.hid g19
            replace g21 := Lib.hid g21
            replace g23 := Lib.hid g23
            simp [Region.binds] at haf
            have hb5 := Lib.hid (show bf 5 = true by simp [haf])
            clear haf
            obtain rfl := (g5.out hb5.out).symm
            rw [HLIT.out]
            have hA := HTB.out.step hM.out.below
            have xA := hA.c 0 rfl
            have zA := hA.2.2
            clear hA
            go_simp
            exact hK.out _ _ ⟨m, A, V, h, f, u, er, r, v34, v35, v36, v37, va, .pointer (some ⟨bt, 0, none⟩), .int .u8 x.hub, v41, v42, v43, v44, v45, v46, v47, v48, v49, v33, v50, v51, v52, v14, v13, v15, (by rw [HLIT.out]), hM.out, (imp_free 6 hI.out (by decide)), hS.out, hQ.out, hT.out, g0.out, g1.out, g2.out, g3.out, g5.out, fun _ => rfl, g7.out, g8.out, g9.out, g10.out, g11.out, g12.out, g13.out, g14.out, g15.out, g16.out, g17.out, g18.out, g19.out, g21.out, g23.out⟩
          · intro bf ac wv hfb haf hJ K' hK
            obtain ⟨m, hJ⟩ := hJ
            obtain ⟨A, hJ⟩ := hJ
            obtain ⟨V, hJ⟩ := hJ
            obtain ⟨h, hJ⟩ := hJ
            obtain ⟨f, hJ⟩ := hJ
            obtain ⟨u, hJ⟩ := hJ
            obtain ⟨er, hJ⟩ := hJ
            obtain ⟨r, hJ⟩ := hJ
            obtain ⟨v34, hJ⟩ := hJ
            obtain ⟨v35, hJ⟩ := hJ
            obtain ⟨v36, hJ⟩ := hJ
            obtain ⟨v37, hJ⟩ := hJ
            obtain ⟨va, hJ⟩ := hJ
            obtain ⟨v39, hJ⟩ := hJ
            obtain ⟨v40, hJ⟩ := hJ
            obtain ⟨v41, hJ⟩ := hJ
            obtain ⟨v42, hJ⟩ := hJ
            obtain ⟨v43, hJ⟩ := hJ
            obtain ⟨v44, hJ⟩ := hJ
            obtain ⟨v45, hJ⟩ := hJ
            obtain ⟨v46, hJ⟩ := hJ
            obtain ⟨v47, hJ⟩ := hJ
            obtain ⟨v48, hJ⟩ := hJ
            obtain ⟨v49, hJ⟩ := hJ
            obtain ⟨v33, hJ⟩ := hJ
            obtain ⟨v50, hJ⟩ := hJ
            obtain ⟨v51, hJ⟩ := hJ
            obtain ⟨v52, hJ⟩ := hJ
            obtain ⟨v14, hJ⟩ := hJ
            obtain ⟨v13, hJ⟩ := hJ
            obtain ⟨v15, hJ⟩ := hJ
            obtain ⟨rfl, hJ⟩ := hJ
            obtain ⟨hM, hJ⟩ := hJ
            obtain ⟨hI, hJ⟩ := hJ
            obtain ⟨hS, hJ⟩ := hJ
            obtain ⟨hQ, hJ⟩ := hJ
            obtain ⟨hT, hJ⟩ := hJ
            obtain ⟨g0, hJ⟩ := hJ
            obtain ⟨g1, hJ⟩ := hJ
            obtain ⟨g2, hJ⟩ := hJ
            obtain ⟨g3, hJ⟩ := hJ
            obtain ⟨g5, hJ⟩ := hJ
            obtain ⟨g6, hJ⟩ := hJ
            obtain ⟨g7, hJ⟩ := hJ
            obtain ⟨g8, hJ⟩ := hJ
            obtain ⟨g9, hJ⟩ := hJ
            obtain ⟨g10, hJ⟩ := hJ
            obtain ⟨g11, hJ⟩ := hJ
            obtain ⟨g12, hJ⟩ := hJ
            obtain ⟨g13, hJ⟩ := hJ
            obtain ⟨g14, hJ⟩ := hJ
            obtain ⟨g15, hJ⟩ := hJ
            obtain ⟨g16, hJ⟩ := hJ
            obtain ⟨g17, hJ⟩ := hJ
            obtain ⟨g18, hJ⟩ := hJ
            obtain ⟨g19, hJ⟩ := hJ
            obtain ⟨g21, hJ⟩ := hJ
            have g23 := hJ
            clear hJ
            replace hK := Lib.hid hK
            replace hM := Lib.hid hM
            replace hI := Lib.hid hI
            replace hS := Lib.hid hS
            replace hQ := Lib.hid hQ
            replace hT := Lib.hid hT
            replace hfb := Lib.hid hfb
            replace g0 := Lib.hid g0
            replace g1 := Lib.hid g1
            replace g2 := Lib.hid g2
            replace g3 := Lib.hid g3
            replace g5 := Lib.hid g5
            replace g6 := Lib.hid g6
            replace g7 := Lib.hid g7
            replace g8 := Lib.hid g8
            replace g9 := Lib.hid g9
            replace g10 := Lib.hid g10
            replace g11 := Lib.hid g11
            replace g12 := Lib.hid g12
            replace g13 := Lib.hid g13
            replace g14 := Lib.hid g14
            replace g15 := Lib.hid g15
            replace g16 := Lib.hid g16
            replace g17 := Lib.hid g17
            replace g18 := Lib.hid g18
            replace g19 := Lib.hid g19
            replace g21 := Lib.hid g21
            replace g23 := Lib.hid g23
            simp [Region.binds] at haf
            have hb6 := Lib.hid (show bf 6 = true by simp [haf])
            clear haf
            obtain rfl := (g6.out hb6.out).symm
            rw [HLIT.out]
            have q1 : IntKind.i64.wrap x.hub = x.hub := IntWalk.i64_in _ (by omega)
            go_simp
            exact hK.out _ _ ⟨m, A, V, h, f, u, er, r, v34, v35, v36, v37, va, v39, .int .u8 x.hub, .int .i64 x.hub, v42, v43, v44, v45, v46, v47, v48, v49, v33, v50, v51, v52, v14, v13, v15, (by rw [HLIT.out]), hM.out, (imp_free 7 hI.out (by decide)), hS.out, hQ.out, hT.out, g0.out, g1.out, g2.out, g3.out, g5.out, g6.out, fun _ => rfl, g8.out, g9.out, g10.out, g11.out, g12.out, g13.out, g14.out, g15.out, g16.out, g17.out, g18.out, g19.out, g21.out, g23.out⟩
          · intro bf ac wv hfb haf hJ K' hK
            obtain ⟨m, hJ⟩ := hJ
            obtain ⟨A, hJ⟩ := hJ
            obtain ⟨V, hJ⟩ := hJ
            obtain ⟨h, hJ⟩ := hJ
            obtain ⟨f, hJ⟩ := hJ
            obtain ⟨u, hJ⟩ := hJ
            obtain ⟨er, hJ⟩ := hJ
            obtain ⟨r, hJ⟩ := hJ
            obtain ⟨v34, hJ⟩ := hJ
            obtain ⟨v35, hJ⟩ := hJ
            obtain ⟨v36, hJ⟩ := hJ
            obtain ⟨v37, hJ⟩ := hJ
            obtain ⟨va, hJ⟩ := hJ
            obtain ⟨v39, hJ⟩ := hJ
            obtain ⟨v40, hJ⟩ := hJ
            obtain ⟨v41, hJ⟩ := hJ
            obtain ⟨v42, hJ⟩ := hJ
            obtain ⟨v43, hJ⟩ := hJ
            obtain ⟨v44, hJ⟩ := hJ
            obtain ⟨v45, hJ⟩ := hJ
            obtain ⟨v46, hJ⟩ := hJ
            obtain ⟨v47, hJ⟩ := hJ
            obtain ⟨v48, hJ⟩ := hJ
            obtain ⟨v49, hJ⟩ := hJ
            obtain ⟨v33, hJ⟩ := hJ
            obtain ⟨v50, hJ⟩ := hJ
            obtain ⟨v51, hJ⟩ := hJ
            obtain ⟨v52, hJ⟩ := hJ
            obtain ⟨v14, hJ⟩ := hJ
            obtain ⟨v13, hJ⟩ := hJ
            obtain ⟨v15, hJ⟩ := hJ
            obtain ⟨rfl, hJ⟩ := hJ
            obtain ⟨hM, hJ⟩ := hJ
            obtain ⟨hI, hJ⟩ := hJ
            obtain ⟨hS, hJ⟩ := hJ
            obtain ⟨hQ, hJ⟩ := hJ
            obtain ⟨hT, hJ⟩ := hJ
            obtain ⟨g0, hJ⟩ := hJ
            obtain ⟨g1, hJ⟩ := hJ
            obtain ⟨g2, hJ⟩ := hJ
            obtain ⟨g3, hJ⟩ := hJ
            obtain ⟨g5, hJ⟩ := hJ
            obtain ⟨g6, hJ⟩ := hJ
            obtain ⟨g7, hJ⟩ := hJ
            obtain ⟨g8, hJ⟩ := hJ
            obtain ⟨g9, hJ⟩ := hJ
            obtain ⟨g10, hJ⟩ := hJ
            obtain ⟨g11, hJ⟩ := hJ
            obtain ⟨g12, hJ⟩ := hJ
            obtain ⟨g13, hJ⟩ := hJ
            obtain ⟨g14, hJ⟩ := hJ
            obtain ⟨g15, hJ⟩ := hJ
            obtain ⟨g16, hJ⟩ := hJ
            obtain ⟨g17, hJ⟩ := hJ
            obtain ⟨g18, hJ⟩ := hJ
            obtain ⟨g19, hJ⟩ := hJ
            obtain ⟨g21, hJ⟩ := hJ
            have g23 := hJ
            clear hJ
            replace hK := Lib.hid hK
            replace hM := Lib.hid hM
            replace hI := Lib.hid hI
            replace hS := Lib.hid hS
            replace hQ := Lib.hid hQ
            replace hT := Lib.hid hT
            replace hfb := Lib.hid hfb
            replace g0 := Lib.hid g0
            replace g1 := Lib.hid g1
            replace g2 := Lib.hid g2
            replace g3 := Lib.hid g3
            replace g5 := Lib.hid g5
            replace g6 := Lib.hid g6
            replace g7 := Lib.hid g7
            replace g8 := Lib.hid g8
            replace g9 := Lib.hid g9
            replace g10 := Lib.hid g10
            replace g11 := Lib.hid g11
            replace g12 := Lib.hid g12
            replace g13 := Lib.hid g13
            replace g14 := Lib.hid g14
            replace g15 := Lib.hid g15
            replace g16 := Lib.hid g16
            replace g17 := Lib.hid g17
            replace g18 := Lib.hid g18
            replace g19 := Lib.hid g19
            replace g21 := Lib.hid g21
            replace g23 := Lib.hid g23
            clear haf
            rw [HLIT.out]
            go_simp
            exact hK.out _ _ ⟨m, A, V, h, f, u, er, r, v34, v35, v36, v37, va, v39, v40, v41, .int .i64 n, v43, v44, v45, v46, v47, v48, v49, v33, v50, v51, v52, v14, v13, v15, (by rw [HLIT.out]), hM.out, (imp_free 8 hI.out (by decide)), hS.out, hQ.out, hT.out, g0.out, g1.out, g2.out, g3.out, g5.out, g6.out, g7.out, fun _ => rfl, g9.out, g10.out, g11.out, g12.out, g13.out, g14.out, g15.out, g16.out, g17.out, g18.out, g19.out, g21.out, g23.out⟩
          · intro bf ac wv hfb haf hJ K' hK
            obtain ⟨m, hJ⟩ := hJ
            obtain ⟨A, hJ⟩ := hJ
            obtain ⟨V, hJ⟩ := hJ
            obtain ⟨h, hJ⟩ := hJ
            obtain ⟨f, hJ⟩ := hJ
            obtain ⟨u, hJ⟩ := hJ
            obtain ⟨er, hJ⟩ := hJ
            obtain ⟨r, hJ⟩ := hJ
            obtain ⟨v34, hJ⟩ := hJ
            obtain ⟨v35, hJ⟩ := hJ
            obtain ⟨v36, hJ⟩ := hJ
            obtain ⟨v37, hJ⟩ := hJ
            obtain ⟨va, hJ⟩ := hJ
            obtain ⟨v39, hJ⟩ := hJ
            obtain ⟨v40, hJ⟩ := hJ
            obtain ⟨v41, hJ⟩ := hJ
            obtain ⟨v42, hJ⟩ := hJ
            obtain ⟨v43, hJ⟩ := hJ
            obtain ⟨v44, hJ⟩ := hJ
            obtain ⟨v45, hJ⟩ := hJ
            obtain ⟨v46, hJ⟩ := hJ
            obtain ⟨v47, hJ⟩ := hJ
            obtain ⟨v48, hJ⟩ := hJ
            obtain ⟨v49, hJ⟩ := hJ
            obtain ⟨v33, hJ⟩ := hJ
            obtain ⟨v50, hJ⟩ := hJ
            obtain ⟨v51, hJ⟩ := hJ
            obtain ⟨v52, hJ⟩ := hJ
            obtain ⟨v14, hJ⟩ := hJ
            obtain ⟨v13, hJ⟩ := hJ
            obtain ⟨v15, hJ⟩ := hJ
            obtain ⟨rfl, hJ⟩ := hJ
            obtain ⟨hM, hJ⟩ := hJ
            obtain ⟨hI, hJ⟩ := hJ
            obtain ⟨hS, hJ⟩ := hJ
            obtain ⟨hQ, hJ⟩ := hJ
            obtain ⟨hT, hJ⟩ := hJ
            obtain ⟨g0, hJ⟩ := hJ
            obtain ⟨g1, hJ⟩ := hJ
            obtain ⟨g2, hJ⟩ := hJ
            obtain ⟨g3, hJ⟩ := hJ
            obtain ⟨g5, hJ⟩ := hJ
            obtain ⟨g6, hJ⟩ := hJ
            obtain ⟨g7, hJ⟩ := hJ
            obtain ⟨g8, hJ⟩ := hJ
            obtain ⟨g9, hJ⟩ := hJ
            obtain ⟨g10, hJ⟩ := hJ
            obtain ⟨g11, hJ⟩ := hJ
            obtain ⟨g12, hJ⟩ := hJ
            obtain ⟨g13, hJ⟩ := hJ
            obtain ⟨g14, hJ⟩ := hJ
            obtain ⟨g15, hJ⟩ := hJ
            obtain ⟨g16, hJ⟩ := hJ
            obtain ⟨g17, hJ⟩ := hJ
            obtain ⟨g18, hJ⟩ := hJ
            obtain ⟨g19, hJ⟩ := hJ
            obtain ⟨g21, hJ⟩ := hJ
            have g23 := hJ
            clear hJ
            replace hK := Lib.hid hK
            replace hM := Lib.hid hM
            replace hI := Lib.hid hI
            replace hS := Lib.hid hS
            replace hQ := Lib.hid hQ
            replace hT := Lib.hid hT
            replace hfb := Lib.hid hfb
            replace g0 := Lib.hid g0
            replace g1 := Lib.hid g1
            replace g2 := Lib.hid g2
            replace g3 := Lib.hid g3
            replace g5 := Lib.hid g5
            replace g6 := Lib.hid g6
            replace g7 := Lib.hid g7
            replace g8 := Lib.hid g8
            replace g9 := Lib.hid g9
            replace g10 := Lib.hid g10
            replace g11 := Lib.hid g11
            replace g12 := Lib.hid g12
            replace g13 := Lib.hid g13
            replace g14 := Lib.hid g14
            replace g15 := Lib.hid g15
            replace g16 := Lib.hid g16
            replace g17 := Lib.hid g17
            replace g18 := Lib.hid g18
            replace g19 := Lib.hid g19
            replace g21 := Lib.hid g21
            replace g23 := Lib.hid g23
            simp [Region.binds] at haf
            have hb7 := Lib.hid (show bf 7 = true by simp [haf])
            have hb8 := Lib.hid (show bf 8 = true by simp [haf])
            clear haf
            obtain rfl := (g7.out hb7.out).symm
            obtain rfl := (g8.out hb8.out).symm
            rw [HLIT.out]
            have q1 : x.hub.tmod (n : Int) = x.hub % n := Int.tmod_eq_emod_of_nonneg p1
            have q2 : IntKind.i64.wrap (x.hub % n) = x.hub % n := IntWalk.i64_in _ (by omega)
            have q3 : ((n : Int) == 0) = false := by simp; omega
            have q4 : (n == 0) = false := by simp; omega
            have q5 : ¬ n = 0 := by omega
            go_simp
            exact hK.out _ _ ⟨m, A, V, h, f, u, er, r, v34, v35, v36, v37, va, v39, v40, .int .i64 x.hub, .int .i64 n, .int .i64 (x.hub % n), v44, v45, v46, v47, v48, v49, v33, v50, v51, v52, v14, v13, v15, (by rw [HLIT.out]), hM.out, (imp_free 9 hI.out (by decide)), hS.out, hQ.out, hT.out, g0.out, g1.out, g2.out, g3.out, g5.out, g6.out, g7.out, g8.out, fun _ => rfl, g10.out, g11.out, g12.out, g13.out, g14.out, g15.out, g16.out, g17.out, g18.out, g19.out, g21.out, g23.out⟩
          · intro bf ac wv hfb haf hJ K' hK
            obtain ⟨m, hJ⟩ := hJ
            obtain ⟨A, hJ⟩ := hJ
            obtain ⟨V, hJ⟩ := hJ
            obtain ⟨h, hJ⟩ := hJ
            obtain ⟨f, hJ⟩ := hJ
            obtain ⟨u, hJ⟩ := hJ
            obtain ⟨er, hJ⟩ := hJ
            obtain ⟨r, hJ⟩ := hJ
            obtain ⟨v34, hJ⟩ := hJ
            obtain ⟨v35, hJ⟩ := hJ
            obtain ⟨v36, hJ⟩ := hJ
            obtain ⟨v37, hJ⟩ := hJ
            obtain ⟨va, hJ⟩ := hJ
            obtain ⟨v39, hJ⟩ := hJ
            obtain ⟨v40, hJ⟩ := hJ
            obtain ⟨v41, hJ⟩ := hJ
            obtain ⟨v42, hJ⟩ := hJ
            obtain ⟨v43, hJ⟩ := hJ
            obtain ⟨v44, hJ⟩ := hJ
            obtain ⟨v45, hJ⟩ := hJ
            obtain ⟨v46, hJ⟩ := hJ
            obtain ⟨v47, hJ⟩ := hJ
            obtain ⟨v48, hJ⟩ := hJ
            obtain ⟨v49, hJ⟩ := hJ
            obtain ⟨v33, hJ⟩ := hJ
            obtain ⟨v50, hJ⟩ := hJ
            obtain ⟨v51, hJ⟩ := hJ
            obtain ⟨v52, hJ⟩ := hJ
            obtain ⟨v14, hJ⟩ := hJ
            obtain ⟨v13, hJ⟩ := hJ
            obtain ⟨v15, hJ⟩ := hJ
            obtain ⟨rfl, hJ⟩ := hJ
            obtain ⟨hM, hJ⟩ := hJ
            obtain ⟨hI, hJ⟩ := hJ
            obtain ⟨hS, hJ⟩ := hJ
            obtain ⟨hQ, hJ⟩ := hJ
            obtain ⟨hT, hJ⟩ := hJ
            obtain ⟨g0, hJ⟩ := hJ
            obtain ⟨g1, hJ⟩ := hJ
            obtain ⟨g2, hJ⟩ := hJ
            obtain ⟨g3, hJ⟩ := hJ
            obtain ⟨g5, hJ⟩ := hJ
            obtain ⟨g6, hJ⟩ := hJ
            obtain ⟨g7, hJ⟩ := hJ
            obtain ⟨g8, hJ⟩ := hJ
            obtain ⟨g9, hJ⟩ := hJ
            obtain ⟨g10, hJ⟩ := hJ
            obtain ⟨g11, hJ⟩ := hJ
            obtain ⟨g12, hJ⟩ := hJ
            obtain ⟨g13, hJ⟩ := hJ
            obtain ⟨g14, hJ⟩ := hJ
            obtain ⟨g15, hJ⟩ := hJ
            obtain ⟨g16, hJ⟩ := hJ
            obtain ⟨g17, hJ⟩ := hJ
            obtain ⟨g18, hJ⟩ := hJ
            obtain ⟨g19, hJ⟩ := hJ
            obtain ⟨g21, hJ⟩ := hJ
            have g23 := hJ
            clear hJ
            replace hK := Lib.hid hK
            replace hM := Lib.hid hM
            replace hI := Lib.hid hI
            replace hS := Lib.hid hS
            replace hQ := Lib.hid hQ
            replace hT := Lib.hid hT
            replace hfb := Lib.hid hfb
            replace g0 := Lib.hid g0
            replace g1 := Lib.hid g1
            replace g2 := Lib.hid g2
            replace g3 := Lib.hid g3
            replace g5 := Lib.hid g5
            replace g6 := Lib.hid g6
            replace g7 := Lib.hid g7
            replace g8 := Lib.hid g8
            replace g9 := Lib.hid g9
            replace g10 := Lib.hid g10
            replace g11 := Lib.hid g11
            replace g12 := Lib.hid g12
            replace g13 := Lib.hid g13
            replace g14 := Lib.hid g14
            replace g15 := Lib.hid g15
            replace g16 := Lib.hid g16
            replace g17 := Lib.hid g17
            replace g18 := Lib.hid g18
            replace g19 := Lib.hid g19
            replace g21 := Lib.hid g21
            replace g23 := Lib.hid g23
            clear haf
            rw [HLIT.out]
            go_simp
            exact hK.out _ _ ⟨m, A, V, h, f, u, er, r, v34, v35, v36, v37, va, v39, v40, v41, v42, v43, .int .i64 now2, v45, v46, v47, v48, v49, v33, v50, v51, v52, v14, v13, v15, (by rw [HLIT.out]), hM.out, (imp_free 10 hI.out (by decide)), hS.out, hQ.out, hT.out, g0.out, g1.out, g2.out, g3.out, g5.out, g6.out, g7.out, g8.out, g9.out, fun _ => rfl, g11.out, g12.out, g13.out, g14.out, g15.out, g16.out, g17.out, g18.out, g19.out, g21.out, g23.out⟩
          · intro bf ac wv hfb haf hJ K' hK
            obtain ⟨m, hJ⟩ := hJ
            obtain ⟨A, hJ⟩ := hJ
            obtain ⟨V, hJ⟩ := hJ
            obtain ⟨h, hJ⟩ := hJ
            obtain ⟨f, hJ⟩ := hJ
            obtain ⟨u, hJ⟩ := hJ
            obtain ⟨er, hJ⟩ := hJ
            obtain ⟨r, hJ⟩ := hJ
            obtain ⟨v34, hJ⟩ := hJ
            obtain ⟨v35, hJ⟩ := hJ
            obtain ⟨v36, hJ⟩ := hJ
            obtain ⟨v37, hJ⟩ := hJ
            obtain ⟨va, hJ⟩ := hJ
            obtain ⟨v39, hJ⟩ := hJ
            obtain ⟨v40, hJ⟩ := hJ
            obtain ⟨v41, hJ⟩ := hJ
            obtain ⟨v42, hJ⟩ := hJ
            obtain ⟨v43, hJ⟩ := hJ
            obtain ⟨v44, hJ⟩ := hJ
            obtain ⟨v45, hJ⟩ := hJ
            obtain ⟨v46, hJ⟩ := hJ
            obtain ⟨v47, hJ⟩ := hJ
            obtain ⟨v48, hJ⟩ := hJ
            obtain ⟨v49, hJ⟩ := hJ
            obtain ⟨v33, hJ⟩ := hJ
            obtain ⟨v50, hJ⟩ := hJ
            obtain ⟨v51, hJ⟩ := hJ
            obtain ⟨v52, hJ⟩ := hJ
            obtain ⟨v14, hJ⟩ := hJ
            obtain ⟨v13, hJ⟩ := hJ
            obtain ⟨v15, hJ⟩ := hJ
            obtain ⟨rfl, hJ⟩ := hJ
            obtain ⟨hM, hJ⟩ := hJ
            obtain ⟨hI, hJ⟩ := hJ
            obtain ⟨hS, hJ⟩ := hJ
            obtain ⟨hQ, hJ⟩ := hJ
            obtain ⟨hT, hJ⟩ := hJ
            obtain ⟨g0, hJ⟩ := hJ
            obtain ⟨g1, hJ⟩ := hJ
            obtain ⟨g2, hJ⟩ := hJ
            obtain ⟨g3, hJ⟩ := hJ
            obtain ⟨g5, hJ⟩ := hJ
            obtain ⟨g6, hJ⟩ := hJ
            obtain ⟨g7, hJ⟩ := hJ
            obtain ⟨g8, hJ⟩ := hJ
            obtain ⟨g9, hJ⟩ := hJ
            obtain ⟨g10, hJ⟩ := hJ
            obtain ⟨g11, hJ⟩ := hJ
            obtain ⟨g12, hJ⟩ := hJ
            obtain ⟨g13, hJ⟩ := hJ
            obtain ⟨g14, hJ⟩ := hJ
            obtain ⟨g15, hJ⟩ := hJ
            obtain ⟨g16, hJ⟩ := hJ
            obtain ⟨g17, hJ⟩ := hJ
            obtain ⟨g18, hJ⟩ := hJ
            obtain ⟨g19, hJ⟩ := hJ
            obtain ⟨g21, hJ⟩ := hJ
            have g23 := hJ
            clear hJ
            replace hK := Lib.hid hK
            replace hM := Lib.hid hM
            replace hI := Lib.hid hI
            replace hS := Lib.hid hS
            replace hQ := Lib.hid hQ
            replace hT := Lib.hid hT
            replace hfb := Lib.hid hfb
            replace g0 := Lib.hid g0
            replace g1 := Lib.hid g1
            replace g2 := Lib.hid g2
            replace g3 := Lib.hid g3
            replace g5 := Lib.hid g5
            replace g6 := Lib.hid g6
            replace g7 := Lib.hid g7
            replace g8 := Lib.hid g8
            replace g9 := Lib.hid g9
            replace g10 := Lib.hid g10
            replace g11 := Lib.hid g11
            replace g12 := Lib.hid g12
            replace g13 := Lib.hid g13
            replace g14 := Lib.hid g14
            replace g15 := Lib.hid g15
            replace g16 := Lib.hid g16
            replace g17 := Lib.hid g17
            replace g18 := Lib.hid g18
            replace g19 := Lib.hid g19
            replace g21 := Lib.hid g21
            replace g23 := Lib.hid g23
            clear haf
            rw [HLIT.out]
            go_simp
            exact hK.out _ _ ⟨m, A, V, h, f, u, er, r, v34, v35, v36, v37, va, v39, v40, v41, v42, v43, v44, .pointer (some ⟨bt, 3, none⟩), v46, v47, v48, v49, v33, v50, v51, v52, v14, v13, v15, (by rw [HLIT.out]), hM.out, (imp_free 11 hI.out (by decide)), hS.out, hQ.out, hT.out, g0.out, g1.out, g2.out, g3.out, g5.out, g6.out, g7.out, g8.out, g9.out, g10.out, fun _ => rfl, g12.out, g13.out, g14.out, g15.out, g16.out, g17.out, g18.out, g19.out, g21.out, g23.out⟩
          · intro bf ac wv hfb haf hJ K' hK
            obtain ⟨m, hJ⟩ := hJ
            obtain ⟨A, hJ⟩ := hJ
            obtain ⟨V, hJ⟩ := hJ
            obtain ⟨h, hJ⟩ := hJ
            obtain ⟨f, hJ⟩ := hJ
            obtain ⟨u, hJ⟩ := hJ
            obtain ⟨er, hJ⟩ := hJ
            obtain ⟨r, hJ⟩ := hJ
            obtain ⟨v34, hJ⟩ := hJ
            obtain ⟨v35, hJ⟩ := hJ
            obtain ⟨v36, hJ⟩ := hJ
            obtain ⟨v37, hJ⟩ := hJ
            obtain ⟨va, hJ⟩ := hJ
            obtain ⟨v39, hJ⟩ := hJ
            obtain ⟨v40, hJ⟩ := hJ
            obtain ⟨v41, hJ⟩ := hJ
            obtain ⟨v42, hJ⟩ := hJ
            obtain ⟨v43, hJ⟩ := hJ
            obtain ⟨v44, hJ⟩ := hJ
            obtain ⟨v45, hJ⟩ := hJ
            obtain ⟨v46, hJ⟩ := hJ
            obtain ⟨v47, hJ⟩ := hJ
            obtain ⟨v48, hJ⟩ := hJ
            obtain ⟨v49, hJ⟩ := hJ
            obtain ⟨v33, hJ⟩ := hJ
            obtain ⟨v50, hJ⟩ := hJ
            obtain ⟨v51, hJ⟩ := hJ
            obtain ⟨v52, hJ⟩ := hJ
            obtain ⟨v14, hJ⟩ := hJ
            obtain ⟨v13, hJ⟩ := hJ
            obtain ⟨v15, hJ⟩ := hJ
            obtain ⟨rfl, hJ⟩ := hJ
            obtain ⟨hM, hJ⟩ := hJ
            obtain ⟨hI, hJ⟩ := hJ
            obtain ⟨hS, hJ⟩ := hJ
            obtain ⟨hQ, hJ⟩ := hJ
            obtain ⟨hT, hJ⟩ := hJ
            obtain ⟨g0, hJ⟩ := hJ
            obtain ⟨g1, hJ⟩ := hJ
            obtain ⟨g2, hJ⟩ := hJ
            obtain ⟨g3, hJ⟩ := hJ
            obtain ⟨g5, hJ⟩ := hJ
            obtain ⟨g6, hJ⟩ := hJ
            obtain ⟨g7, hJ⟩ := hJ
            obtain ⟨g8, hJ⟩ := hJ
            obtain ⟨g9, hJ⟩ := hJ
            obtain ⟨g10, hJ⟩ := hJ
            obtain ⟨g11, hJ⟩ := hJ
            obtain ⟨g12, hJ⟩ := hJ
            obtain ⟨g13, hJ⟩ := hJ
            obtain ⟨g14, hJ⟩ := hJ
            obtain ⟨g15, hJ⟩ := hJ
            obtain ⟨g16, hJ⟩ := hJ
            obtain ⟨g17, hJ⟩ := hJ
            obtain ⟨g18, hJ⟩ := hJ
            obtain ⟨g19, hJ⟩ := hJ
            obtain ⟨g21, hJ⟩ := hJ
            have g23 := hJ
            clear hJ
            replace hK := Lib.hid hK
            replace hM := Lib.hid hM
            replace hI := Lib.hid hI
            replace hS := Lib.hid hS
            replace hQ := Lib.hid hQ
            replace hT := Lib.hid hT
            replace hfb := Lib.hid hfb
            replace g0 := Lib.hid g0
            replace g1 := Lib.hid g1
            replace g2 := Lib.hid g2
            replace g3 := Lib.hid g3
            replace g5 := Lib.hid g5
            replace g6 := Lib.hid g6
            replace g7 := Lib.hid g7
            replace g8 := Lib.hid g8
            replace g9 := Lib.hid g9
            replace g10 := Lib.hid g10
            replace g11 := Lib.hid g11
            replace g12 := Lib.hid g12
            replace g13 := Lib.hid g13
            replace g14 := Lib.hid g14
            replace g15 := Lib.hid g15
            replace g16 := Lib.hid g16
            replace g17 := Lib.hid g17
            replace g18 := Lib.hid g18
            replace g19 := Lib.hid g19
            replace g21 := Lib.hid g21
            replace g23 := Lib.hid g23
            simp [Region.binds] at haf
            have hb11 := Lib.hid (show bf 11 = true by simp [haf])
            clear haf
            obtain rfl := (g11.out hb11.out).symm
            rw [HLIT.out]
            have hA := HTB.out.step hM.out.below
            have xA := hA.c 3 rfl
            have zA := hA.2.2
            clear hA
            go_simp
            exact hK.out _ _ ⟨m, A, V, h, f, u, er, r, v34, v35, v36, v37, va, v39, v40, v41, v42, v43, v44, .pointer (some ⟨bt, 3, none⟩), .int .u16 x.len, v47, v48, v49, v33, v50, v51, v52, v14, v13, v15, (by rw [HLIT.out]), hM.out, (imp_free 12 hI.out (by decide)), hS.out, hQ.out, hT.out, g0.out, g1.out, g2.out, g3.out, g5.out, g6.out, g7.out, g8.out, g9.out, g10.out, g11.out, fun _ => rfl, g13.out, g14.out, g15.out, g16.out, g17.out, g18.out, g19.out, g21.out, g23.out⟩
          · intro bf ac wv hfb haf hJ K' hK
            obtain ⟨m, hJ⟩ := hJ
            obtain ⟨A, hJ⟩ := hJ
            obtain ⟨V, hJ⟩ := hJ
            obtain ⟨h, hJ⟩ := hJ
            obtain ⟨f, hJ⟩ := hJ
            obtain ⟨u, hJ⟩ := hJ
            obtain ⟨er, hJ⟩ := hJ
            obtain ⟨r, hJ⟩ := hJ
            obtain ⟨v34, hJ⟩ := hJ
            obtain ⟨v35, hJ⟩ := hJ
            obtain ⟨v36, hJ⟩ := hJ
            obtain ⟨v37, hJ⟩ := hJ
            obtain ⟨va, hJ⟩ := hJ
            obtain ⟨v39, hJ⟩ := hJ
            obtain ⟨v40, hJ⟩ := hJ
            obtain ⟨v41, hJ⟩ := hJ
            obtain ⟨v42, hJ⟩ := hJ
            obtain ⟨v43, hJ⟩ := hJ
            obtain ⟨v44, hJ⟩ := hJ
            obtain ⟨v45, hJ⟩ := hJ
            obtain ⟨v46, hJ⟩ := hJ
            obtain ⟨v47, hJ⟩ := hJ
            obtain ⟨v48, hJ⟩ := hJ
            obtain ⟨v49, hJ⟩ := hJ
            obtain ⟨v33, hJ⟩ := hJ
            obtain ⟨v50, hJ⟩ := hJ
            obtain ⟨v51, hJ⟩ := hJ
            obtain ⟨v52, hJ⟩ := hJ
            obtain ⟨v14, hJ⟩ := hJ
            obtain ⟨v13, hJ⟩ := hJ
            obtain ⟨v15, hJ⟩ := hJ
            obtain ⟨rfl, hJ⟩ := hJ
            obtain ⟨hM, hJ⟩ := hJ
            obtain ⟨hI, hJ⟩ := hJ
            obtain ⟨hS, hJ⟩ := hJ
            obtain ⟨hQ, hJ⟩ := hJ
            obtain ⟨hT, hJ⟩ := hJ
            obtain ⟨g0, hJ⟩ := hJ
            obtain ⟨g1, hJ⟩ := hJ
            obtain ⟨g2, hJ⟩ := hJ
            obtain ⟨g3, hJ⟩ := hJ
            obtain ⟨g5, hJ⟩ := hJ
            obtain ⟨g6, hJ⟩ := hJ
            obtain ⟨g7, hJ⟩ := hJ
            obtain ⟨g8, hJ⟩ := hJ
            obtain ⟨g9, hJ⟩ := hJ
            obtain ⟨g10, hJ⟩ := hJ
            obtain ⟨g11, hJ⟩ := hJ
            obtain ⟨g12, hJ⟩ := hJ
            obtain ⟨g13, hJ⟩ := hJ
            obtain ⟨g14, hJ⟩ := hJ
            obtain ⟨g15, hJ⟩ := hJ
            obtain ⟨g16, hJ⟩ := hJ
            obtain ⟨g17, hJ⟩ := hJ
            obtain ⟨g18, hJ⟩ := hJ
            obtain ⟨g19, hJ⟩ := hJ
            obtain ⟨g21, hJ⟩ := hJ
            have g23 := hJ
            clear hJ
            replace hK := Lib.hid hK
            replace hM := Lib.hid hM
            replace hI := Lib.hid hI
            replace hS := Lib.hid hS
            replace hQ := Lib.hid hQ
            replace hT := Lib.hid hT
            replace hfb := Lib.hid hfb
            replace g0 := Lib.hid g0
            replace g1 := Lib.hid g1
            replace g2 := Lib.hid g2
            replace g3 := Lib.hid g3
            replace g5 := Lib.hid g5
            replace g6 := Lib.hid g6
            replace g7 := Lib.hid g7
            replace g8 := Lib.hid g8
            replace g9 := Lib.hid g9
            replace g10 := Lib.hid g10
            replace g11 := Lib.hid g11
            replace g12 := Lib.hid g12
            replace g13 := Lib.hid g13
            replace g14 := Lib.hid g14
            replace g15 := Lib.hid g15
            replace g16 := Lib.hid g16
            replace g17 := Lib.hid g17
            replace g18 := Lib.hid g18
            replace g19 := Lib.hid g19
            replace g21 := Lib.hid g21
            replace g23 := Lib.hid g23
            simp [Region.binds] at haf
            have hb12 := Lib.hid (show bf 12 = true by simp [haf])
            clear haf
            obtain rfl := (g12.out hb12.out).symm
            rw [HLIT.out]
            have q1 : IntKind.i64.wrap x.len = x.len := IntWalk.i64_in _ (by omega)
            go_simp
            exact hK.out _ _ ⟨m, A, V, h, f, u, er, r, v34, v35, v36, v37, va, v39, v40, v41, v42, v43, v44, v45, .int .u16 x.len, .int .i64 x.len, v48, v49, v33, v50, v51, v52, v14, v13, v15, (by rw [HLIT.out]), hM.out, (imp_free 13 hI.out (by decide)), hS.out, hQ.out, hT.out, g0.out, g1.out, g2.out, g3.out, g5.out, g6.out, g7.out, g8.out, g9.out, g10.out, g11.out, g12.out, fun _ => rfl, g14.out, g15.out, g16.out, g17.out, g18.out, g19.out, g21.out, g23.out⟩
          · intro bf ac wv hfb haf hJ K' hK
            obtain ⟨m, hJ⟩ := hJ
            obtain ⟨A, hJ⟩ := hJ
            obtain ⟨V, hJ⟩ := hJ
            obtain ⟨h, hJ⟩ := hJ
            obtain ⟨f, hJ⟩ := hJ
            obtain ⟨u, hJ⟩ := hJ
            obtain ⟨er, hJ⟩ := hJ
            obtain ⟨r, hJ⟩ := hJ
            obtain ⟨v34, hJ⟩ := hJ
            obtain ⟨v35, hJ⟩ := hJ
            obtain ⟨v36, hJ⟩ := hJ
            obtain ⟨v37, hJ⟩ := hJ
            obtain ⟨va, hJ⟩ := hJ
            obtain ⟨v39, hJ⟩ := hJ
            obtain ⟨v40, hJ⟩ := hJ
            obtain ⟨v41, hJ⟩ := hJ
            obtain ⟨v42, hJ⟩ := hJ
            obtain ⟨v43, hJ⟩ := hJ
            obtain ⟨v44, hJ⟩ := hJ
            obtain ⟨v45, hJ⟩ := hJ
            obtain ⟨v46, hJ⟩ := hJ
            obtain ⟨v47, hJ⟩ := hJ
            obtain ⟨v48, hJ⟩ := hJ
            obtain ⟨v49, hJ⟩ := hJ
            obtain ⟨v33, hJ⟩ := hJ
            obtain ⟨v50, hJ⟩ := hJ
            obtain ⟨v51, hJ⟩ := hJ
            obtain ⟨v52, hJ⟩ := hJ
            obtain ⟨v14, hJ⟩ := hJ
            obtain ⟨v13, hJ⟩ := hJ
            obtain ⟨v15, hJ⟩ := hJ
            obtain ⟨rfl, hJ⟩ := hJ
            obtain ⟨hM, hJ⟩ := hJ
            obtain ⟨hI, hJ⟩ := hJ
            obtain ⟨hS, hJ⟩ := hJ
            obtain ⟨hQ, hJ⟩ := hJ
            obtain ⟨hT, hJ⟩ := hJ
            obtain ⟨g0, hJ⟩ := hJ
            obtain ⟨g1, hJ⟩ := hJ
            obtain ⟨g2, hJ⟩ := hJ
            obtain ⟨g3, hJ⟩ := hJ
            obtain ⟨g5, hJ⟩ := hJ
            obtain ⟨g6, hJ⟩ := hJ
            obtain ⟨g7, hJ⟩ := hJ
            obtain ⟨g8, hJ⟩ := hJ
            obtain ⟨g9, hJ⟩ := hJ
            obtain ⟨g10, hJ⟩ := hJ
            obtain ⟨g11, hJ⟩ := hJ
            obtain ⟨g12, hJ⟩ := hJ
            obtain ⟨g13, hJ⟩ := hJ
            obtain ⟨g14, hJ⟩ := hJ
            obtain ⟨g15, hJ⟩ := hJ
            obtain ⟨g16, hJ⟩ := hJ
            obtain ⟨g17, hJ⟩ := hJ
            obtain ⟨g18, hJ⟩ := hJ
            obtain ⟨g19, hJ⟩ := hJ
            obtain ⟨g21, hJ⟩ := hJ
            have g23 := hJ
            clear hJ
            replace hK := Lib.hid hK
            replace hM := Lib.hid hM
            replace hI := Lib.hid hI
            replace hS := Lib.hid hS
            replace hQ := Lib.hid hQ
            replace hT := Lib.hid hT
            replace hfb := Lib.hid hfb
            replace g0 := Lib.hid g0
            replace g1 := Lib.hid g1
            replace g2 := Lib.hid g2
            replace g3 := Lib.hid g3
            replace g5 := Lib.hid g5
            replace g6 := Lib.hid g6
            replace g7 := Lib.hid g7
            replace g8 := Lib.hid g8
            replace g9 := Lib.hid g9
            replace g10 := Lib.hid g10
            replace g11 := Lib.hid g11
            replace g12 := Lib.hid g12
            replace g13 := Lib.hid g13
            replace g14 := Lib.hid g14
            replace g15 := Lib.hid g15
            replace g16 := Lib.hid g16
            replace g17 := Lib.hid g17
            replace g18 := Lib.hid g18
            replace g19 := Lib.hid g19
            replace g21 := Lib.hid g21
            replace g23 := Lib.hid g23
            simp [Region.binds] at haf
            have hb13 := Lib.hid (show bf 13 = true by simp [haf])
            clear haf
            obtain rfl := (g13.out hb13.out).symm
            rw [HLIT.out]
            have q1 : IntKind.i64.wrap (1 + x.len) = 1 + x.len := IntWalk.i64_in _ (by omega)
            go_simp
            exact hK.out _ _ ⟨m, A, V, h, f, u, er, r, v34, v35, v36, v37, va, v39, v40, v41, v42, v43, v44, v45, v46, .int .i64 x.len, .int .i64 (1 + x.len), v49, v33, v50, v51, v52, v14, v13, v15, (by rw [HLIT.out]), hM.out, (imp_free 14 hI.out (by decide)), hS.out, hQ.out, hT.out, g0.out, g1.out, g2.out, g3.out, g5.out, g6.out, g7.out, g8.out, g9.out, g10.out, g11.out, g12.out, g13.out, fun _ => rfl, g15.out, g16.out, g17.out, g18.out, g19.out, g21.out, g23.out⟩
          · intro bf ac wv hfb haf hJ K' hK
            obtain ⟨m, hJ⟩ := hJ
            obtain ⟨A, hJ⟩ := hJ
            obtain ⟨V, hJ⟩ := hJ
            obtain ⟨h, hJ⟩ := hJ
            obtain ⟨f, hJ⟩ := hJ
            obtain ⟨u, hJ⟩ := hJ
            obtain ⟨er, hJ⟩ := hJ
            obtain ⟨r, hJ⟩ := hJ
            obtain ⟨v34, hJ⟩ := hJ
            obtain ⟨v35, hJ⟩ := hJ
            obtain ⟨v36, hJ⟩ := hJ
            obtain ⟨v37, hJ⟩ := hJ
            obtain ⟨va, hJ⟩ := hJ
            obtain ⟨v39, hJ⟩ := hJ
            obtain ⟨v40, hJ⟩ := hJ
            obtain ⟨v41, hJ⟩ := hJ
            obtain ⟨v42, hJ⟩ := hJ
            obtain ⟨v43, hJ⟩ := hJ
            obtain ⟨v44, hJ⟩ := hJ
            obtain ⟨v45, hJ⟩ := hJ
            obtain ⟨v46, hJ⟩ := hJ
            obtain ⟨v47, hJ⟩ := hJ
            obtain ⟨v48, hJ⟩ := hJ
            obtain ⟨v49, hJ⟩ := hJ
            obtain ⟨v33, hJ⟩ := hJ
            obtain ⟨v50, hJ⟩ := hJ
            obtain ⟨v51, hJ⟩ := hJ
            obtain ⟨v52, hJ⟩ := hJ
            obtain ⟨v14, hJ⟩ := hJ
            obtain ⟨v13, hJ⟩ := hJ
            obtain ⟨v15, hJ⟩ := hJ
            obtain ⟨rfl, hJ⟩ := hJ
            obtain ⟨hM, hJ⟩ := hJ
            obtain ⟨hI, hJ⟩ := hJ
            obtain ⟨hS, hJ⟩ := hJ
            obtain ⟨hQ, hJ⟩ := hJ
            obtain ⟨hT, hJ⟩ := hJ
            obtain ⟨g0, hJ⟩ := hJ
            obtain ⟨g1, hJ⟩ := hJ
            obtain ⟨g2, hJ⟩ := hJ
            obtain ⟨g3, hJ⟩ := hJ
            obtain ⟨g5, hJ⟩ := hJ
            obtain ⟨g6, hJ⟩ := hJ
            obtain ⟨g7, hJ⟩ := hJ
            obtain ⟨g8, hJ⟩ := hJ
            obtain ⟨g9, hJ⟩ := hJ
            obtain ⟨g10, hJ⟩ := hJ
            obtain ⟨g11, hJ⟩ := hJ
            obtain ⟨g12, hJ⟩ := hJ
            obtain ⟨g13, hJ⟩ := hJ
            obtain ⟨g14, hJ⟩ := hJ
            obtain ⟨g15, hJ⟩ := hJ
            obtain ⟨g16, hJ⟩ := hJ
            obtain ⟨g17, hJ⟩ := hJ
            obtain ⟨g18, hJ⟩ := hJ
            obtain ⟨g19, hJ⟩ := hJ
            obtain ⟨g21, hJ⟩ := hJ
            have g23 := hJ
            clear hJ
            replace hK := Lib.hid hK
            replace hM := Lib.hid hM
            replace hI := Lib.hid hI
            replace hS := Lib.hid hS
            replace hQ := Lib.hid hQ
            replace hT := Lib.hid hT
            replace hfb := Lib.hid hfb
            replace g0 := Lib.hid g0
            replace g1 := Lib.hid g1
            replace g2 := Lib.hid g2
            replace g3 := Lib.hid g3
            replace g5 := Lib.hid g5
            replace g6 := Lib.hid g6
            replace g7 := Lib.hid g7
            replace g8 := Lib.hid g8
            replace g9 := Lib.hid g9
            replace g10 := Lib.hid g10
            replace g11 := Lib.hid g11
            replace g12 := Lib.hid g12
            replace g13 := Lib.hid g13
            replace g14 := Lib.hid g14
            replace g15 := Lib.hid g15
            replace g16 := Lib.hid g16
            replace g17 := Lib.hid g17
            replace g18 := Lib.hid g18
            replace g19 := Lib.hid g19
            replace g21 := Lib.hid g21
            replace g23 := Lib.hid g23
            simp [Region.binds] at haf
            have hb0 := Lib.hid (show bf 0 = true by simp [haf])
            have hb4 := Lib.hid (show bf 4 = true by simp [haf])
            have hb9 := Lib.hid (show bf 9 = true by simp [haf])
            have hb10 := Lib.hid (show bf 10 = true by simp [haf])
            have hb14 := Lib.hid (show bf 14 = true by simp [haf])
            clear haf
            obtain rfl := (g0.out hb0.out).symm
            obtain rfl := (g9.out hb9.out).symm
            obtain rfl := (g10.out hb10.out).symm
            obtain rfl := (g14.out hb14.out).symm
            rw [HLIT.out]
            have HAq := Lib.hid (hQ.out hb4.out hfb.out)
            have HEq := Lib.hid (hS.out hb4.out).2
            have n16 := Lib.hid (hI.out.no 16 15 (by simp [chain]) hfb.out)
            have n17 := Lib.hid (hI.out.no 17 16 (by simp [chain]) n16.out)
            have n21 := Lib.hid (hI.out.no 21 17 (by simp [chain]) n17.out)
            go_simp
            go_at_call 10
            refine (elect_any2 HEq.out _ _ _ (HVq.out.step hM.out.below) HAq.out).mono ?_
            rintro e w5 ⟨r5, rfl, hr5, hn5, b5⟩
            exact hK.out _ _ ⟨m, A, V, h, f, u, er, r5, u8, v35, v36, v37, va, v39, v40, v41, v42, .int .i64 (x.hub % n), .int .i64 now2, v45, v46, v47, .int .i64 (1 + x.len), .tuple #[r5, .agg #[.int .i64 h, .int .i64 f, .int .i64 u], .int .i64 er], v33, v50, v51, v52, v14, v13, v15, (by rw [HLIT.out]), (hM.out.step b5), (imp_one 15 4 hI.out (by decide) hb4.out), hS.out, fun _ => yes_of rfl, fun _ => Vt.mk' hr5 hn5 hM.out, g0.out, g1.out, g2.out, g3.out, g5.out, g6.out, g7.out, g8.out, g9.out, g10.out, g11.out, g12.out, g13.out, g14.out, fun _ => rfl, no_of n16.out, no_of n17.out, g18.out, g19.out, no_of n21.out, g23.out⟩
          · intro bf ac wv hfb haf hJ K' hK
            obtain ⟨m, hJ⟩ := hJ
            obtain ⟨A, hJ⟩ := hJ
            obtain ⟨V, hJ⟩ := hJ
            obtain ⟨h, hJ⟩ := hJ
            obtain ⟨f, hJ⟩ := hJ
            obtain ⟨u, hJ⟩ := hJ
            obtain ⟨er, hJ⟩ := hJ
            obtain ⟨r, hJ⟩ := hJ
            obtain ⟨v34, hJ⟩ := hJ
            obtain ⟨v35, hJ⟩ := hJ
            obtain ⟨v36, hJ⟩ := hJ
            obtain ⟨v37, hJ⟩ := hJ
            obtain ⟨va, hJ⟩ := hJ
            obtain ⟨v39, hJ⟩ := hJ
            obtain ⟨v40, hJ⟩ := hJ
            obtain ⟨v41, hJ⟩ := hJ
            obtain ⟨v42, hJ⟩ := hJ
            obtain ⟨v43, hJ⟩ := hJ
            obtain ⟨v44, hJ⟩ := hJ
            obtain ⟨v45, hJ⟩ := hJ
            obtain ⟨v46, hJ⟩ := hJ
            obtain ⟨v47, hJ⟩ := hJ
            obtain ⟨v48, hJ⟩ := hJ
            obtain ⟨v49, hJ⟩ := hJ
            obtain ⟨v33, hJ⟩ := hJ
            obtain ⟨v50, hJ⟩ := hJ
            obtain ⟨v51, hJ⟩ := hJ
            obtain ⟨v52, hJ⟩ := hJ
            obtain ⟨v14, hJ⟩ := hJ
            obtain ⟨v13, hJ⟩ := hJ
            obtain ⟨v15, hJ⟩ := hJ
            obtain ⟨rfl, hJ⟩ := hJ
            obtain ⟨hM, hJ⟩ := hJ
            obtain ⟨hI, hJ⟩ := hJ
            obtain ⟨hS, hJ⟩ := hJ
            obtain ⟨hQ, hJ⟩ := hJ
            obtain ⟨hT, hJ⟩ := hJ
            obtain ⟨g0, hJ⟩ := hJ
            obtain ⟨g1, hJ⟩ := hJ
            obtain ⟨g2, hJ⟩ := hJ
            obtain ⟨g3, hJ⟩ := hJ
            obtain ⟨g5, hJ⟩ := hJ
            obtain ⟨g6, hJ⟩ := hJ
            obtain ⟨g7, hJ⟩ := hJ
            obtain ⟨g8, hJ⟩ := hJ
            obtain ⟨g9, hJ⟩ := hJ
            obtain ⟨g10, hJ⟩ := hJ
            obtain ⟨g11, hJ⟩ := hJ
            obtain ⟨g12, hJ⟩ := hJ
            obtain ⟨g13, hJ⟩ := hJ
            obtain ⟨g14, hJ⟩ := hJ
            obtain ⟨g15, hJ⟩ := hJ
            obtain ⟨g16, hJ⟩ := hJ
            obtain ⟨g17, hJ⟩ := hJ
            obtain ⟨g18, hJ⟩ := hJ
            obtain ⟨g19, hJ⟩ := hJ
            obtain ⟨g21, hJ⟩ := hJ
            have g23 := hJ
            clear hJ
            replace hK := Lib.hid hK
            replace hM := Lib.hid hM
            replace hI := Lib.hid hI
            replace hS := Lib.hid hS
            replace hQ := Lib.hid hQ
            replace hT := Lib.hid hT
            replace hfb := Lib.hid hfb
            replace g0 := Lib.hid g0
            replace g1 := Lib.hid g1
            replace g2 := Lib.hid g2
            replace g3 := Lib.hid g3
            replace g5 := Lib.hid g5
            replace g6 := Lib.hid g6
            replace g7 := Lib.hid g7
            replace g8 := Lib.hid g8
            replace g9 := Lib.hid g9
            replace g10 := Lib.hid g10
            replace g11 := Lib.hid g11
            replace g12 := Lib.hid g12
            replace g13 := Lib.hid g13
            replace g14 := Lib.hid g14
            replace g15 := Lib.hid g15
            replace g16 := Lib.hid g16
            replace g17 := Lib.hid g17
            replace g18 := Lib.hid g18
            replace g19 := Lib.hid g19
            replace g21 := Lib.hid g21
            replace g23 := Lib.hid g23
            simp [Region.binds] at haf
            have hb15 := Lib.hid (show bf 15 = true by simp [haf])
            clear haf
            obtain rfl := (g15.out hb15.out).symm
            rw [HLIT.out]
            go_simp
            exact hK.out _ _ ⟨m, A, V, h, f, u, er, r, v34, v35, v36, v37, va, v39, v40, v41, v42, v43, v44, v45, v46, v47, v48, .tuple #[r, .agg #[.int .i64 h, .int .i64 f, .int .i64 u], .int .i64 er], .tuple #[r, .agg #[.int .i64 h, .int .i64 f, .int .i64 u], .int .i64 er], v50, v51, v52, v14, v13, v15, (by rw [HLIT.out]), hM.out, (imp_one 16 15 hI.out (by decide) hb15.out), hS.out, hQ.out, hT.out, g0.out, g1.out, g2.out, g3.out, g5.out, g6.out, g7.out, g8.out, g9.out, g10.out, g11.out, g12.out, g13.out, g14.out, g15.out, fun _ => rfl, g17.out, g18.out, g19.out, g21.out, g23.out⟩
          · intro bf ac wv hfb haf hJ K' hK
            obtain ⟨m, hJ⟩ := hJ
            obtain ⟨A, hJ⟩ := hJ
            obtain ⟨V, hJ⟩ := hJ
            obtain ⟨h, hJ⟩ := hJ
            obtain ⟨f, hJ⟩ := hJ
            obtain ⟨u, hJ⟩ := hJ
            obtain ⟨er, hJ⟩ := hJ
            obtain ⟨r, hJ⟩ := hJ
            obtain ⟨v34, hJ⟩ := hJ
            obtain ⟨v35, hJ⟩ := hJ
            obtain ⟨v36, hJ⟩ := hJ
            obtain ⟨v37, hJ⟩ := hJ
            obtain ⟨va, hJ⟩ := hJ
            obtain ⟨v39, hJ⟩ := hJ
            obtain ⟨v40, hJ⟩ := hJ
            obtain ⟨v41, hJ⟩ := hJ
            obtain ⟨v42, hJ⟩ := hJ
            obtain ⟨v43, hJ⟩ := hJ
            obtain ⟨v44, hJ⟩ := hJ
            obtain ⟨v45, hJ⟩ := hJ
            obtain ⟨v46, hJ⟩ := hJ
            obtain ⟨v47, hJ⟩ := hJ
            obtain ⟨v48, hJ⟩ := hJ
            obtain ⟨v49, hJ⟩ := hJ
            obtain ⟨v33, hJ⟩ := hJ
            obtain ⟨v50, hJ⟩ := hJ
            obtain ⟨v51, hJ⟩ := hJ
            obtain ⟨v52, hJ⟩ := hJ
            obtain ⟨v14, hJ⟩ := hJ
            obtain ⟨v13, hJ⟩ := hJ
            obtain ⟨v15, hJ⟩ := hJ
            obtain ⟨rfl, hJ⟩ := hJ
            obtain ⟨hM, hJ⟩ := hJ
            obtain ⟨hI, hJ⟩ := hJ
            obtain ⟨hS, hJ⟩ := hJ
            obtain ⟨hQ, hJ⟩ := hJ
            obtain ⟨hT, hJ⟩ := hJ
            obtain ⟨g0, hJ⟩ := hJ
            obtain ⟨g1, hJ⟩ := hJ
            obtain ⟨g2, hJ⟩ := hJ
            obtain ⟨g3, hJ⟩ := hJ
            obtain ⟨g5, hJ⟩ := hJ
            obtain ⟨g6, hJ⟩ := hJ
            obtain ⟨g7, hJ⟩ := hJ
            obtain ⟨g8, hJ⟩ := hJ
            obtain ⟨g9, hJ⟩ := hJ
            obtain ⟨g10, hJ⟩ := hJ
            obtain ⟨g11, hJ⟩ := hJ
            obtain ⟨g12, hJ⟩ := hJ
            obtain ⟨g13, hJ⟩ := hJ
            obtain ⟨g14, hJ⟩ := hJ
            obtain ⟨g15, hJ⟩ := hJ
            obtain ⟨g16, hJ⟩ := hJ
            obtain ⟨g17, hJ⟩ := hJ
            obtain ⟨g18, hJ⟩ := hJ
            obtain ⟨g19, hJ⟩ := hJ
            obtain ⟨g21, hJ⟩ := hJ
            have g23 := hJ
            clear hJ
            replace hK := Lib.hid hK
            replace hM := Lib.hid hM
            replace hI := Lib.hid hI
            replace hS := Lib.hid hS
            replace hQ := Lib.hid hQ
            replace hT := Lib.hid hT
            replace hfb := Lib.hid hfb
            replace g0 := Lib.hid g0
            replace g1 := Lib.hid g1
            replace g2 := Lib.hid g2
            replace g3 := Lib.hid g3
            replace g5 := Lib.hid g5
            replace g6 := Lib.hid g6
            replace g7 := Lib.hid g7
            replace g8 := Lib.hid g8
            replace g9 := Lib.hid g9
            replace g10 := Lib.hid g10
            replace g11 := Lib.hid g11
            replace g12 := Lib.hid g12
            replace g13 := Lib.hid g13
            replace g14 := Lib.hid g14
            replace g15 := Lib.hid g15
            replace g16 := Lib.hid g16
            replace g17 := Lib.hid g17
            replace g18 := Lib.hid g18
            replace g19 := Lib.hid g19
            replace g21 := Lib.hid g21
            replace g23 := Lib.hid g23
            simp [Region.binds] at haf
            have hb16 := Lib.hid (show bf 16 = true by simp [haf])
            clear haf
            obtain rfl := (g16.out hb16.out).symm
            rw [HLIT.out]
            go_simp
            exact hK.out _ _ ⟨m, A, V, h, f, u, er, r, v34, v35, v36, v37, va, v39, v40, v41, v42, v43, v44, v45, v46, v47, v48, v49, .tuple #[r, .agg #[.int .i64 h, .int .i64 f, .int .i64 u], .int .i64 er], r, v51, v52, v14, v13, v15, (by rw [HLIT.out]), hM.out, (imp_one 17 16 hI.out (by decide) hb16.out), hS.out, hQ.out, hT.out, g0.out, g1.out, g2.out, g3.out, g5.out, g6.out, g7.out, g8.out, g9.out, g10.out, g11.out, g12.out, g13.out, g14.out, g15.out, g16.out, fun _ => rfl, g18.out, g19.out, g21.out, g23.out⟩
          · intro bf ac wv hfb haf hJ K' hK
            obtain ⟨m, hJ⟩ := hJ
            obtain ⟨A, hJ⟩ := hJ
            obtain ⟨V, hJ⟩ := hJ
            obtain ⟨h, hJ⟩ := hJ
            obtain ⟨f, hJ⟩ := hJ
            obtain ⟨u, hJ⟩ := hJ
            obtain ⟨er, hJ⟩ := hJ
            obtain ⟨r, hJ⟩ := hJ
            obtain ⟨v34, hJ⟩ := hJ
            obtain ⟨v35, hJ⟩ := hJ
            obtain ⟨v36, hJ⟩ := hJ
            obtain ⟨v37, hJ⟩ := hJ
            obtain ⟨va, hJ⟩ := hJ
            obtain ⟨v39, hJ⟩ := hJ
            obtain ⟨v40, hJ⟩ := hJ
            obtain ⟨v41, hJ⟩ := hJ
            obtain ⟨v42, hJ⟩ := hJ
            obtain ⟨v43, hJ⟩ := hJ
            obtain ⟨v44, hJ⟩ := hJ
            obtain ⟨v45, hJ⟩ := hJ
            obtain ⟨v46, hJ⟩ := hJ
            obtain ⟨v47, hJ⟩ := hJ
            obtain ⟨v48, hJ⟩ := hJ
            obtain ⟨v49, hJ⟩ := hJ
            obtain ⟨v33, hJ⟩ := hJ
            obtain ⟨v50, hJ⟩ := hJ
            obtain ⟨v51, hJ⟩ := hJ
            obtain ⟨v52, hJ⟩ := hJ
            obtain ⟨v14, hJ⟩ := hJ
            obtain ⟨v13, hJ⟩ := hJ
            obtain ⟨v15, hJ⟩ := hJ
            obtain ⟨rfl, hJ⟩ := hJ
            obtain ⟨hM, hJ⟩ := hJ
            obtain ⟨hI, hJ⟩ := hJ
            obtain ⟨hS, hJ⟩ := hJ
            obtain ⟨hQ, hJ⟩ := hJ
            obtain ⟨hT, hJ⟩ := hJ
            obtain ⟨g0, hJ⟩ := hJ
            obtain ⟨g1, hJ⟩ := hJ
            obtain ⟨g2, hJ⟩ := hJ
            obtain ⟨g3, hJ⟩ := hJ
            obtain ⟨g5, hJ⟩ := hJ
            obtain ⟨g6, hJ⟩ := hJ
            obtain ⟨g7, hJ⟩ := hJ
            obtain ⟨g8, hJ⟩ := hJ
            obtain ⟨g9, hJ⟩ := hJ
            obtain ⟨g10, hJ⟩ := hJ
            obtain ⟨g11, hJ⟩ := hJ
            obtain ⟨g12, hJ⟩ := hJ
            obtain ⟨g13, hJ⟩ := hJ
            obtain ⟨g14, hJ⟩ := hJ
            obtain ⟨g15, hJ⟩ := hJ
            obtain ⟨g16, hJ⟩ := hJ
            obtain ⟨g17, hJ⟩ := hJ
            obtain ⟨g18, hJ⟩ := hJ
            obtain ⟨g19, hJ⟩ := hJ
            obtain ⟨g21, hJ⟩ := hJ
            have g23 := hJ
            clear hJ
            replace hK := Lib.hid hK
            replace hM := Lib.hid hM
            replace hI := Lib.hid hI
            replace hS := Lib.hid hS
            replace hQ := Lib.hid hQ
            replace hT := Lib.hid hT
            replace hfb := Lib.hid hfb
            replace g0 := Lib.hid g0
            replace g1 := Lib.hid g1
            replace g2 := Lib.hid g2
            replace g3 := Lib.hid g3
            replace g5 := Lib.hid g5
            replace g6 := Lib.hid g6
            replace g7 := Lib.hid g7
            replace g8 := Lib.hid g8
            replace g9 := Lib.hid g9
            replace g10 := Lib.hid g10
            replace g11 := Lib.hid g11
            replace g12 := Lib.hid g12
            replace g13 := Lib.hid g13
            replace g14 := Lib.hid g14
            replace g15 := Lib.hid g15
            replace g16 := Lib.hid g16
            replace g17 := Lib.hid g17
            replace g18 := Lib.hid g18
            replace g19 := Lib.hid g19
            replace g21 := Lib.hid g21
            replace g23 := Lib.hid g23
            simp [Region.binds] at haf
            have hb16 := Lib.hid (show bf 16 = true by simp [haf])
            clear haf
            obtain rfl := (g16.out hb16.out).symm
            rw [HLIT.out]
            go_simp
            exact hK.out _ _ ⟨m, A, V, h, f, u, er, r, v34, v35, v36, v37, va, v39, v40, v41, v42, v43, v44, v45, v46, v47, v48, v49, .tuple #[r, .agg #[.int .i64 h, .int .i64 f, .int .i64 u], .int .i64 er], v50, .agg #[.int .i64 h, .int .i64 f, .int .i64 u], v52, v14, v13, v15, (by rw [HLIT.out]), hM.out, (imp_one 18 16 hI.out (by decide) hb16.out), hS.out, hQ.out, hT.out, g0.out, g1.out, g2.out, g3.out, g5.out, g6.out, g7.out, g8.out, g9.out, g10.out, g11.out, g12.out, g13.out, g14.out, g15.out, g16.out, g17.out, fun _ => rfl, g19.out, g21.out, g23.out⟩
          · intro bf ac wv hfb haf hJ K' hK
            obtain ⟨m, hJ⟩ := hJ
            obtain ⟨A, hJ⟩ := hJ
            obtain ⟨V, hJ⟩ := hJ
            obtain ⟨h, hJ⟩ := hJ
            obtain ⟨f, hJ⟩ := hJ
            obtain ⟨u, hJ⟩ := hJ
            obtain ⟨er, hJ⟩ := hJ
            obtain ⟨r, hJ⟩ := hJ
            obtain ⟨v34, hJ⟩ := hJ
            obtain ⟨v35, hJ⟩ := hJ
            obtain ⟨v36, hJ⟩ := hJ
            obtain ⟨v37, hJ⟩ := hJ
            obtain ⟨va, hJ⟩ := hJ
            obtain ⟨v39, hJ⟩ := hJ
            obtain ⟨v40, hJ⟩ := hJ
            obtain ⟨v41, hJ⟩ := hJ
            obtain ⟨v42, hJ⟩ := hJ
            obtain ⟨v43, hJ⟩ := hJ
            obtain ⟨v44, hJ⟩ := hJ
            obtain ⟨v45, hJ⟩ := hJ
            obtain ⟨v46, hJ⟩ := hJ
            obtain ⟨v47, hJ⟩ := hJ
            obtain ⟨v48, hJ⟩ := hJ
            obtain ⟨v49, hJ⟩ := hJ
            obtain ⟨v33, hJ⟩ := hJ
            obtain ⟨v50, hJ⟩ := hJ
            obtain ⟨v51, hJ⟩ := hJ
            obtain ⟨v52, hJ⟩ := hJ
            obtain ⟨v14, hJ⟩ := hJ
            obtain ⟨v13, hJ⟩ := hJ
            obtain ⟨v15, hJ⟩ := hJ
            obtain ⟨rfl, hJ⟩ := hJ
            obtain ⟨hM, hJ⟩ := hJ
            obtain ⟨hI, hJ⟩ := hJ
            obtain ⟨hS, hJ⟩ := hJ
            obtain ⟨hQ, hJ⟩ := hJ
            obtain ⟨hT, hJ⟩ := hJ
            obtain ⟨g0, hJ⟩ := hJ
            obtain ⟨g1, hJ⟩ := hJ
            obtain ⟨g2, hJ⟩ := hJ
            obtain ⟨g3, hJ⟩ := hJ
            obtain ⟨g5, hJ⟩ := hJ
            obtain ⟨g6, hJ⟩ := hJ
            obtain ⟨g7, hJ⟩ := hJ
            obtain ⟨g8, hJ⟩ := hJ
            obtain ⟨g9, hJ⟩ := hJ
            obtain ⟨g10, hJ⟩ := hJ
            obtain ⟨g11, hJ⟩ := hJ
            obtain ⟨g12, hJ⟩ := hJ
            obtain ⟨g13, hJ⟩ := hJ
            obtain ⟨g14, hJ⟩ := hJ
            obtain ⟨g15, hJ⟩ := hJ
            obtain ⟨g16, hJ⟩ := hJ
            obtain ⟨g17, hJ⟩ := hJ
            obtain ⟨g18, hJ⟩ := hJ
            obtain ⟨g19, hJ⟩ := hJ
            obtain ⟨g21, hJ⟩ := hJ
            have g23 := hJ
            clear hJ
            replace hK := Lib.hid hK
            replace hM := Lib.hid hM
            replace hI := Lib.hid hI
            replace hS := Lib.hid hS
            replace hQ := Lib.hid hQ
            replace hT := Lib.hid hT
            replace hfb := Lib.hid hfb
            replace g0 := Lib.hid g0
            replace g1 := Lib.hid g1
            replace g2 := Lib.hid g2
            replace g3 := Lib.hid g3
            replace g5 := Lib.hid g5
            replace g6 := Lib.hid g6
            replace g7 := Lib.hid g7
            replace g8 := Lib.hid g8
            replace g9 := Lib.hid g9
            replace g10 := Lib.hid g10
            replace g11 := Lib.hid g11
            replace g12 := Lib.hid g12
            replace g13 := Lib.hid g13
            replace g14 := Lib.hid g14
            replace g15 := Lib.hid g15
            replace g16 := Lib.hid g16
            replace g17 := Lib.hid g17
            replace g18 := Lib.hid g18
            replace g19 := Lib.hid g19
            replace g21 := Lib.hid g21
            replace g23 := Lib.hid g23
            simp [Region.binds] at haf
            have hb16 := Lib.hid (show bf 16 = true by simp [haf])
            clear haf
            obtain rfl := (g16.out hb16.out).symm
            rw [HLIT.out]
            go_simp
            exact hK.out _ _ ⟨m, A, V, h, f, u, er, r, v34, v35, v36, v37, va, v39, v40, v41, v42, v43, v44, v45, v46, v47, v48, v49, .tuple #[r, .agg #[.int .i64 h, .int .i64 f, .int .i64 u], .int .i64 er], v50, v51, .int .i64 er, v14, v13, v15, (by rw [HLIT.out]), hM.out, (imp_one 19 16 hI.out (by decide) hb16.out), hS.out, hQ.out, hT.out, g0.out, g1.out, g2.out, g3.out, g5.out, g6.out, g7.out, g8.out, g9.out, g10.out, g11.out, g12.out, g13.out, g14.out, g15.out, g16.out, g17.out, g18.out, fun _ => rfl, g21.out, g23.out⟩
          · intro bf ac wv hfb haf hJ K' hK
            obtain ⟨m, hJ⟩ := hJ
            obtain ⟨A, hJ⟩ := hJ
            obtain ⟨V, hJ⟩ := hJ
            obtain ⟨h, hJ⟩ := hJ
            obtain ⟨f, hJ⟩ := hJ
            obtain ⟨u, hJ⟩ := hJ
            obtain ⟨er, hJ⟩ := hJ
            obtain ⟨r, hJ⟩ := hJ
            obtain ⟨v34, hJ⟩ := hJ
            obtain ⟨v35, hJ⟩ := hJ
            obtain ⟨v36, hJ⟩ := hJ
            obtain ⟨v37, hJ⟩ := hJ
            obtain ⟨va, hJ⟩ := hJ
            obtain ⟨v39, hJ⟩ := hJ
            obtain ⟨v40, hJ⟩ := hJ
            obtain ⟨v41, hJ⟩ := hJ
            obtain ⟨v42, hJ⟩ := hJ
            obtain ⟨v43, hJ⟩ := hJ
            obtain ⟨v44, hJ⟩ := hJ
            obtain ⟨v45, hJ⟩ := hJ
            obtain ⟨v46, hJ⟩ := hJ
            obtain ⟨v47, hJ⟩ := hJ
            obtain ⟨v48, hJ⟩ := hJ
            obtain ⟨v49, hJ⟩ := hJ
            obtain ⟨v33, hJ⟩ := hJ
            obtain ⟨v50, hJ⟩ := hJ
            obtain ⟨v51, hJ⟩ := hJ
            obtain ⟨v52, hJ⟩ := hJ
            obtain ⟨v14, hJ⟩ := hJ
            obtain ⟨v13, hJ⟩ := hJ
            obtain ⟨v15, hJ⟩ := hJ
            obtain ⟨rfl, hJ⟩ := hJ
            obtain ⟨hM, hJ⟩ := hJ
            obtain ⟨hI, hJ⟩ := hJ
            obtain ⟨hS, hJ⟩ := hJ
            obtain ⟨hQ, hJ⟩ := hJ
            obtain ⟨hT, hJ⟩ := hJ
            obtain ⟨g0, hJ⟩ := hJ
            obtain ⟨g1, hJ⟩ := hJ
            obtain ⟨g2, hJ⟩ := hJ
            obtain ⟨g3, hJ⟩ := hJ
            obtain ⟨g5, hJ⟩ := hJ
            obtain ⟨g6, hJ⟩ := hJ
            obtain ⟨g7, hJ⟩ := hJ
            obtain ⟨g8, hJ⟩ := hJ
            obtain ⟨g9, hJ⟩ := hJ
            obtain ⟨g10, hJ⟩ := hJ
            obtain ⟨g11, hJ⟩ := hJ
            obtain ⟨g12, hJ⟩ := hJ
            obtain ⟨g13, hJ⟩ := hJ
            obtain ⟨g14, hJ⟩ := hJ
            obtain ⟨g15, hJ⟩ := hJ
            obtain ⟨g16, hJ⟩ := hJ
            obtain ⟨g17, hJ⟩ := hJ
            obtain ⟨g18, hJ⟩ := hJ
            obtain ⟨g19, hJ⟩ := hJ
            obtain ⟨g21, hJ⟩ := hJ
            have g23 := hJ
            clear hJ
            replace hK := Lib.hid hK
            replace hM := Lib.hid hM
            replace hI := Lib.hid hI
            replace hS := Lib.hid hS
            replace hQ := Lib.hid hQ
            replace hT := Lib.hid hT
            replace hfb := Lib.hid hfb
            replace g0 := Lib.hid g0
            replace g1 := Lib.hid g1
            replace g2 := Lib.hid g2
            replace g3 := Lib.hid g3
            replace g5 := Lib.hid g5
            replace g6 := Lib.hid g6
            replace g7 := Lib.hid g7
            replace g8 := Lib.hid g8
            replace g9 := Lib.hid g9
            replace g10 := Lib.hid g10
            replace g11 := Lib.hid g11
            replace g12 := Lib.hid g12
            replace g13 := Lib.hid g13
            replace g14 := Lib.hid g14
            replace g15 := Lib.hid g15
            replace g16 := Lib.hid g16
            replace g17 := Lib.hid g17
            replace g18 := Lib.hid g18
            replace g19 := Lib.hid g19
            replace g21 := Lib.hid g21
            replace g23 := Lib.hid g23
            clear haf
            rw [HLIT.out]
            have hM2 := hM.out
            rw [hfb.out] at hM2
            have hM3 := Lib.hid hM2.alloc
            clear hM2
            go_simp
            exact hK.out _ _ ⟨wv.heap.size, A, V, h, f, u, er, r, v34, v35, v36, v37, va, v39, v40, v41, v42, v43, v44, v45, v46, v47, v48, v49, v33, v50, v51, v52, .pointer (some ⟨wv.heap.size, 0, none⟩), v13, v15, (by rw [HLIT.out]), hM3.out, (imp_free 20 hI.out (by decide)), hS.out, fun z y => (hQ.out z y).step (al _ _), fun z => (hT.out z).alloc _, g0.out, g1.out, g2.out, g3.out, g5.out, g6.out, g7.out, g8.out, g9.out, g10.out, g11.out, g12.out, g13.out, g14.out, g15.out, g16.out, g17.out, g18.out, g19.out, g21.out, g23.out⟩
          · intro bf ac wv hfb haf hJ K' hK
            obtain ⟨m, hJ⟩ := hJ
            obtain ⟨A, hJ⟩ := hJ
            obtain ⟨V, hJ⟩ := hJ
            obtain ⟨h, hJ⟩ := hJ
            obtain ⟨f, hJ⟩ := hJ
            obtain ⟨u, hJ⟩ := hJ
            obtain ⟨er, hJ⟩ := hJ
            obtain ⟨r, hJ⟩ := hJ
            obtain ⟨v34, hJ⟩ := hJ
            obtain ⟨v35, hJ⟩ := hJ
            obtain ⟨v36, hJ⟩ := hJ
            obtain ⟨v37, hJ⟩ := hJ
            obtain ⟨va, hJ⟩ := hJ
            obtain ⟨v39, hJ⟩ := hJ
            obtain ⟨v40, hJ⟩ := hJ
            obtain ⟨v41, hJ⟩ := hJ
            obtain ⟨v42, hJ⟩ := hJ
            obtain ⟨v43, hJ⟩ := hJ
            obtain ⟨v44, hJ⟩ := hJ
            obtain ⟨v45, hJ⟩ := hJ
            obtain ⟨v46, hJ⟩ := hJ
            obtain ⟨v47, hJ⟩ := hJ
            obtain ⟨v48, hJ⟩ := hJ
            obtain ⟨v49, hJ⟩ := hJ
            obtain ⟨v33, hJ⟩ := hJ
            obtain ⟨v50, hJ⟩ := hJ
            obtain ⟨v51, hJ⟩ := hJ
            obtain ⟨v52, hJ⟩ := hJ
            obtain ⟨v14, hJ⟩ := hJ
            obtain ⟨v13, hJ⟩ := hJ
            obtain ⟨v15, hJ⟩ := hJ
            obtain ⟨rfl, hJ⟩ := hJ
            obtain ⟨hM, hJ⟩ := hJ
            obtain ⟨hI, hJ⟩ := hJ
            obtain ⟨hS, hJ⟩ := hJ
            obtain ⟨hQ, hJ⟩ := hJ
            obtain ⟨hT, hJ⟩ := hJ
            obtain ⟨g0, hJ⟩ := hJ
            obtain ⟨g1, hJ⟩ := hJ
            obtain ⟨g2, hJ⟩ := hJ
            obtain ⟨g3, hJ⟩ := hJ
            obtain ⟨g5, hJ⟩ := hJ
            obtain ⟨g6, hJ⟩ := hJ
            obtain ⟨g7, hJ⟩ := hJ
            obtain ⟨g8, hJ⟩ := hJ
            obtain ⟨g9, hJ⟩ := hJ
            obtain ⟨g10, hJ⟩ := hJ
            obtain ⟨g11, hJ⟩ := hJ
            obtain ⟨g12, hJ⟩ := hJ
            obtain ⟨g13, hJ⟩ := hJ
            obtain ⟨g14, hJ⟩ := hJ
            obtain ⟨g15, hJ⟩ := hJ
            obtain ⟨g16, hJ⟩ := hJ
            obtain ⟨g17, hJ⟩ := hJ
            obtain ⟨g18, hJ⟩ := hJ
            obtain ⟨g19, hJ⟩ := hJ
            obtain ⟨g21, hJ⟩ := hJ
            have g23 := hJ
            clear hJ
            replace hK := Lib.hid hK
            replace hM := Lib.hid hM
            replace hI := Lib.hid hI
            replace hS := Lib.hid hS
            replace hQ := Lib.hid hQ
            replace hT := Lib.hid hT
            replace hfb := Lib.hid hfb
            replace g0 := Lib.hid g0
            replace g1 := Lib.hid g1
            replace g2 := Lib.hid g2
            replace g3 := Lib.hid g3
            replace g5 := Lib.hid g5
            replace g6 := Lib.hid g6
            replace g7 := Lib.hid g7
            replace g8 := Lib.hid g8
            replace g9 := Lib.hid g9
            replace g10 := Lib.hid g10
            replace g11 := Lib.hid g11
            replace g12 := Lib.hid g12
            replace g13 := Lib.hid g13
            replace g14 := Lib.hid g14
            replace g15 := Lib.hid g15
            replace g16 := Lib.hid g16
            replace g17 := Lib.hid g17
            replace g18 := Lib.hid g18
            replace g19 := Lib.hid g19
            replace g21 := Lib.hid g21
            replace g23 := Lib.hid g23
            simp [Region.binds] at haf
            have hb17 := Lib.hid (show bf 17 = true by simp [haf])
            clear haf
            obtain rfl := (g17.out hb17.out).symm
            rw [HLIT.out]
            go_simp
            exact hK.out _ _ ⟨m, A, V, h, f, u, er, r, v34, v35, v36, v37, va, v39, v40, v41, v42, v43, v44, v45, v46, v47, v48, v49, v33, r, v51, v52, v14, r, v15, (by rw [HLIT.out]), hM.out, (imp_one 21 17 hI.out (by decide) hb17.out), hS.out, hQ.out, hT.out, g0.out, g1.out, g2.out, g3.out, g5.out, g6.out, g7.out, g8.out, g9.out, g10.out, g11.out, g12.out, g13.out, g14.out, g15.out, g16.out, g17.out, g18.out, g19.out, fun _ => rfl, g23.out⟩
          · intro bf ac wv hfb haf hJ K' hK
            obtain ⟨m, hJ⟩ := hJ
            obtain ⟨A, hJ⟩ := hJ
            obtain ⟨V, hJ⟩ := hJ
            obtain ⟨h, hJ⟩ := hJ
            obtain ⟨f, hJ⟩ := hJ
            obtain ⟨u, hJ⟩ := hJ
            obtain ⟨er, hJ⟩ := hJ
            obtain ⟨r, hJ⟩ := hJ
            obtain ⟨v34, hJ⟩ := hJ
            obtain ⟨v35, hJ⟩ := hJ
            obtain ⟨v36, hJ⟩ := hJ
            obtain ⟨v37, hJ⟩ := hJ
            obtain ⟨va, hJ⟩ := hJ
            obtain ⟨v39, hJ⟩ := hJ
            obtain ⟨v40, hJ⟩ := hJ
            obtain ⟨v41, hJ⟩ := hJ
            obtain ⟨v42, hJ⟩ := hJ
            obtain ⟨v43, hJ⟩ := hJ
            obtain ⟨v44, hJ⟩ := hJ
            obtain ⟨v45, hJ⟩ := hJ
            obtain ⟨v46, hJ⟩ := hJ
            obtain ⟨v47, hJ⟩ := hJ
            obtain ⟨v48, hJ⟩ := hJ
            obtain ⟨v49, hJ⟩ := hJ
            obtain ⟨v33, hJ⟩ := hJ
            obtain ⟨v50, hJ⟩ := hJ
            obtain ⟨v51, hJ⟩ := hJ
            obtain ⟨v52, hJ⟩ := hJ
            obtain ⟨v14, hJ⟩ := hJ
            obtain ⟨v13, hJ⟩ := hJ
            obtain ⟨v15, hJ⟩ := hJ
            obtain ⟨rfl, hJ⟩ := hJ
            obtain ⟨hM, hJ⟩ := hJ
            obtain ⟨hI, hJ⟩ := hJ
            obtain ⟨hS, hJ⟩ := hJ
            obtain ⟨hQ, hJ⟩ := hJ
            obtain ⟨hT, hJ⟩ := hJ
            obtain ⟨g0, hJ⟩ := hJ
            obtain ⟨g1, hJ⟩ := hJ
            obtain ⟨g2, hJ⟩ := hJ
            obtain ⟨g3, hJ⟩ := hJ
            obtain ⟨g5, hJ⟩ := hJ
            obtain ⟨g6, hJ⟩ := hJ
            obtain ⟨g7, hJ⟩ := hJ
            obtain ⟨g8, hJ⟩ := hJ
            obtain ⟨g9, hJ⟩ := hJ
            obtain ⟨g10, hJ⟩ := hJ
            obtain ⟨g11, hJ⟩ := hJ
            obtain ⟨g12, hJ⟩ := hJ
            obtain ⟨g13, hJ⟩ := hJ
            obtain ⟨g14, hJ⟩ := hJ
            obtain ⟨g15, hJ⟩ := hJ
            obtain ⟨g16, hJ⟩ := hJ
            obtain ⟨g17, hJ⟩ := hJ
            obtain ⟨g18, hJ⟩ := hJ
            obtain ⟨g19, hJ⟩ := hJ
            obtain ⟨g21, hJ⟩ := hJ
            have g23 := hJ
            clear hJ
            replace hK := Lib.hid hK
            replace hM := Lib.hid hM
            replace hI := Lib.hid hI
            replace hS := Lib.hid hS
            replace hQ := Lib.hid hQ
            replace hT := Lib.hid hT
            replace hfb := Lib.hid hfb
            replace g0 := Lib.hid g0
            replace g1 := Lib.hid g1
            replace g2 := Lib.hid g2
            replace g3 := Lib.hid g3
            replace g5 := Lib.hid g5
            replace g6 := Lib.hid g6
            replace g7 := Lib.hid g7
            replace g8 := Lib.hid g8
            replace g9 := Lib.hid g9
            replace g10 := Lib.hid g10
            replace g11 := Lib.hid g11
            replace g12 := Lib.hid g12
            replace g13 := Lib.hid g13
            replace g14 := Lib.hid g14
            replace g15 := Lib.hid g15
            replace g16 := Lib.hid g16
            replace g17 := Lib.hid g17
            replace g18 := Lib.hid g18
            replace g19 := Lib.hid g19
            replace g21 := Lib.hid g21
            replace g23 := Lib.hid g23
            simp [Region.binds] at haf
            have hb18 := Lib.hid (show bf 18 = true by simp [haf])
            have hb20 := Lib.hid (show bf 20 = true by simp [haf])
            clear haf
            obtain rfl := (g18.out hb18.out).symm
            rw [HLIT.out]
            have hb16 := Lib.hid (hI.out _ (show (18, 16) ∈ chain by simp [chain]) hb18.out)
            have hb15 := Lib.hid (hI.out _ (show (16, 15) ∈ chain by simp [chain]) hb16.out)
            have hM2 := hM.out
            rw [hb20.out, hfb.out] at hM2
            have hM3 := Lib.hid hM2.store
            obtain ⟨rfl, hZ⟩ := hM2.c rfl
            have hZ := Lib.hid hZ
            clear hM2
            have xZ0 := hZ.out.c 0 rfl
            have yZ0 := hZ.out.f 0 (by simp)
            have xZ1 := hZ.out.c 1 rfl
            have yZ1 := hZ.out.f 1 (by simp)
            have xZ2 := hZ.out.c 2 rfl
            have yZ2 := hZ.out.f 2 (by simp)
            have zZ := hZ.out.2.2
            go_simp
            exact hK.out _ _ ⟨m, A, V, h, f, u, er, r, v34, v35, v36, v37, va, v39, v40, v41, v42, v43, v44, v45, v46, v47, v48, v49, v33, v50, .agg #[.int .i64 h, .int .i64 f, .int .i64 u], v52, .pointer (some ⟨m, 0, none⟩), v13, v15, (by rw [HLIT.out]), (by rw [show up bf 22 20 = true from hb20.out]; exact hM3.out), (imp_one 22 18 hI.out (by decide) hb18.out), hS.out, fun _ => yes_of hb15.out, fun z => (hT.out z).store hb20.out _ _ _, g0.out, g1.out, g2.out, g3.out, g5.out, g6.out, g7.out, g8.out, g9.out, g10.out, g11.out, g12.out, g13.out, g14.out, g15.out, g16.out, g17.out, g18.out, g19.out, g21.out, g23.out⟩
          · intro bf ac wv hfb haf hJ K' hK
            obtain ⟨m, hJ⟩ := hJ
            obtain ⟨A, hJ⟩ := hJ
            obtain ⟨V, hJ⟩ := hJ
            obtain ⟨h, hJ⟩ := hJ
            obtain ⟨f, hJ⟩ := hJ
            obtain ⟨u, hJ⟩ := hJ
            obtain ⟨er, hJ⟩ := hJ
            obtain ⟨r, hJ⟩ := hJ
            obtain ⟨v34, hJ⟩ := hJ
            obtain ⟨v35, hJ⟩ := hJ
            obtain ⟨v36, hJ⟩ := hJ
            obtain ⟨v37, hJ⟩ := hJ
            obtain ⟨va, hJ⟩ := hJ
            obtain ⟨v39, hJ⟩ := hJ
            obtain ⟨v40, hJ⟩ := hJ
            obtain ⟨v41, hJ⟩ := hJ
            obtain ⟨v42, hJ⟩ := hJ
            obtain ⟨v43, hJ⟩ := hJ
            obtain ⟨v44, hJ⟩ := hJ
            obtain ⟨v45, hJ⟩ := hJ
            obtain ⟨v46, hJ⟩ := hJ
            obtain ⟨v47, hJ⟩ := hJ
            obtain ⟨v48, hJ⟩ := hJ
            obtain ⟨v49, hJ⟩ := hJ
            obtain ⟨v33, hJ⟩ := hJ
            obtain ⟨v50, hJ⟩ := hJ
            obtain ⟨v51, hJ⟩ := hJ
            obtain ⟨v52, hJ⟩ := hJ
            obtain ⟨v14, hJ⟩ := hJ
            obtain ⟨v13, hJ⟩ := hJ
            obtain ⟨v15, hJ⟩ := hJ
            obtain ⟨rfl, hJ⟩ := hJ
            obtain ⟨hM, hJ⟩ := hJ
            obtain ⟨hI, hJ⟩ := hJ
            obtain ⟨hS, hJ⟩ := hJ
            obtain ⟨hQ, hJ⟩ := hJ
            obtain ⟨hT, hJ⟩ := hJ
            obtain ⟨g0, hJ⟩ := hJ
            obtain ⟨g1, hJ⟩ := hJ
            obtain ⟨g2, hJ⟩ := hJ
            obtain ⟨g3, hJ⟩ := hJ
            obtain ⟨g5, hJ⟩ := hJ
            obtain ⟨g6, hJ⟩ := hJ
            obtain ⟨g7, hJ⟩ := hJ
            obtain ⟨g8, hJ⟩ := hJ
            obtain ⟨g9, hJ⟩ := hJ
            obtain ⟨g10, hJ⟩ := hJ
            obtain ⟨g11, hJ⟩ := hJ
            obtain ⟨g12, hJ⟩ := hJ
            obtain ⟨g13, hJ⟩ := hJ
            obtain ⟨g14, hJ⟩ := hJ
            obtain ⟨g15, hJ⟩ := hJ
            obtain ⟨g16, hJ⟩ := hJ
            obtain ⟨g17, hJ⟩ := hJ
            obtain ⟨g18, hJ⟩ := hJ
            obtain ⟨g19, hJ⟩ := hJ
            obtain ⟨g21, hJ⟩ := hJ
            have g23 := hJ
            clear hJ
            replace hK := Lib.hid hK
            replace hM := Lib.hid hM
            replace hI := Lib.hid hI
            replace hS := Lib.hid hS
            replace hQ := Lib.hid hQ
            replace hT := Lib.hid hT
            replace hfb := Lib.hid hfb
            replace g0 := Lib.hid g0
            replace g1 := Lib.hid g1
            replace g2 := Lib.hid g2
            replace g3 := Lib.hid g3
            replace g5 := Lib.hid g5
            replace g6 := Lib.hid g6
            replace g7 := Lib.hid g7
            replace g8 := Lib.hid g8
            replace g9 := Lib.hid g9
            replace g10 := Lib.hid g10
            replace g11 := Lib.hid g11
            replace g12 := Lib.hid g12
            replace g13 := Lib.hid g13
            replace g14 := Lib.hid g14
            replace g15 := Lib.hid g15
            replace g16 := Lib.hid g16
            replace g17 := Lib.hid g17
            replace g18 := Lib.hid g18
            replace g19 := Lib.hid g19
            replace g21 := Lib.hid g21
            replace g23 := Lib.hid g23
            simp [Region.binds] at haf
            have hb19 := Lib.hid (show bf 19 = true by simp [haf])
            clear haf
            obtain rfl := (g19.out hb19.out).symm
            rw [HLIT.out]
            go_simp
            exact hK.out _ _ ⟨m, A, V, h, f, u, er, r, v34, v35, v36, v37, va, v39, v40, v41, v42, v43, v44, v45, v46, v47, v48, v49, v33, v50, v51, .int .i64 er, v14, v13, .int .i64 er, (by rw [HLIT.out]), hM.out, (imp_one 23 19 hI.out (by decide) hb19.out), hS.out, hQ.out, hT.out, g0.out, g1.out, g2.out, g3.out, g5.out, g6.out, g7.out, g8.out, g9.out, g10.out, g11.out, g12.out, g13.out, g14.out, g15.out, g16.out, g17.out, g18.out, g19.out, g21.out, fun _ => rfl⟩
        · intro bf ac wv hall hJ
          obtain ⟨m, hJ⟩ := hJ
          obtain ⟨A, hJ⟩ := hJ
          obtain ⟨V, hJ⟩ := hJ
          obtain ⟨h, hJ⟩ := hJ
          obtain ⟨f, hJ⟩ := hJ
          obtain ⟨u, hJ⟩ := hJ
          obtain ⟨er, hJ⟩ := hJ
          obtain ⟨r, hJ⟩ := hJ
          obtain ⟨v34, hJ⟩ := hJ
          obtain ⟨v35, hJ⟩ := hJ
          obtain ⟨v36, hJ⟩ := hJ
          obtain ⟨v37, hJ⟩ := hJ
          obtain ⟨va, hJ⟩ := hJ
          obtain ⟨v39, hJ⟩ := hJ
          obtain ⟨v40, hJ⟩ := hJ
          obtain ⟨v41, hJ⟩ := hJ
          obtain ⟨v42, hJ⟩ := hJ
          obtain ⟨v43, hJ⟩ := hJ
          obtain ⟨v44, hJ⟩ := hJ
          obtain ⟨v45, hJ⟩ := hJ
          obtain ⟨v46, hJ⟩ := hJ
          obtain ⟨v47, hJ⟩ := hJ
          obtain ⟨v48, hJ⟩ := hJ
          obtain ⟨v49, hJ⟩ := hJ
          obtain ⟨v33, hJ⟩ := hJ
          obtain ⟨v50, hJ⟩ := hJ
          obtain ⟨v51, hJ⟩ := hJ
          obtain ⟨v52, hJ⟩ := hJ
          obtain ⟨v14, hJ⟩ := hJ
          obtain ⟨v13, hJ⟩ := hJ
          obtain ⟨v15, hJ⟩ := hJ
          obtain ⟨rfl, hJ⟩ := hJ
          obtain ⟨hM, hJ⟩ := hJ
          obtain ⟨hI, hJ⟩ := hJ
          obtain ⟨hS, hJ⟩ := hJ
          obtain ⟨hQ, hJ⟩ := hJ
          obtain ⟨hT, hJ⟩ := hJ
          obtain ⟨g0, hJ⟩ := hJ
          obtain ⟨g1, hJ⟩ := hJ
          obtain ⟨g2, hJ⟩ := hJ
          obtain ⟨g3, hJ⟩ := hJ
          obtain ⟨g5, hJ⟩ := hJ
          obtain ⟨g6, hJ⟩ := hJ
          obtain ⟨g7, hJ⟩ := hJ
          obtain ⟨g8, hJ⟩ := hJ
          obtain ⟨g9, hJ⟩ := hJ
          obtain ⟨g10, hJ⟩ := hJ
          obtain ⟨g11, hJ⟩ := hJ
          obtain ⟨g12, hJ⟩ := hJ
          obtain ⟨g13, hJ⟩ := hJ
          obtain ⟨g14, hJ⟩ := hJ
          obtain ⟨g15, hJ⟩ := hJ
          obtain ⟨g16, hJ⟩ := hJ
          obtain ⟨g17, hJ⟩ := hJ
          obtain ⟨g18, hJ⟩ := hJ
          obtain ⟨g19, hJ⟩ := hJ
          obtain ⟨g21, hJ⟩ := hJ
          have g23 := hJ
          clear hJ
          have hS2 := Lib.hid (hS (hall 4 (by decide)))
          have hT2 := Lib.hid (hT (hall 15 (by decide)))
          obtain rfl := (g21 (hall 21 (by decide))).symm
          obtain rfl := (g23 (hall 23 (by decide))).symm
          rw [hall 20 (by decide), hall 22 (by decide)] at hM
          obtain ⟨rfl, hcs⟩ := hM.c rfl
          have hB := Lib.hid hM.below
          have hC := Lib.hid hcs
          clear hcs hM hI hS hQ hT hall g0 g1 g2 g3 g5 g6 g7 g8 g9 g10 g11 g12 g13 g14 g15 g16 g17 g18 g19 g21 g23
          rw [HLIT.out]
          go_wp2
          go_meet
          exact ⟨A, V, h, f, u, er, r, m, rfl, rfl, rfl, hS2.out.1, hS2.out.2, Lib.hid hT2.out.1, hT2.out.2.1, hC, hB⟩
      case rest =>
        obtain ⟨A, V, h, f, u, er, r, m, rfl, rfl, rfl, hA, hE, HVc, hnew, HCc, HBc⟩ := hcut
        have hst := step_of HI.out h2 h3 hA p5 p6 ⟨e1, e2⟩ (show 1 ≤ 1 + x.len by omega) (show 1 + x.len ≤ 65536 by omega) (by omega) (by rw [HNOW.out]; exact hE)
        rw [HNOW.out] at hst
        have HBw := Lib.hid (keep2 HBc.out HBq.out)
        have HGc := Lib.hid (row_step HGq.out HBc.out)
        obtain ⟨ar, cr, rfl⟩ := vos_slice HVc.out
        have hkl : G.length + 1 ≤ k + 1 := by have := HGL.out; omega
        have HKL := Lib.hid hkl
        have HKL1 := Lib.hid (show G.length ≤ k + 1 by omega)
        clear hkl
        have n0 : (n == 0) = false := by simp; omega
        have n1 : ((n : Int) == 0) = false := by simp; omega
        have n2 : ((0 : Int) == (n : Int)) = false := by simp; omega
        have n3 : (0 == n) = false := by simp; omega
        cases hst with
        | none h1 h4 hI =>
          subst h1 h4
          have HI2 := Lib.hid hI
          have HLc := Lib.hid (HVq.out.step HBc.out)
          clear hI hE hA hnew
          go_wp2
          go_roundw
          case rel => exact ⟨k + 1, L, G, now2, by omega, by go_num, rfl, HLc, HGc, HKL1, HI2, HBw⟩
          case measure => simp [intOf]; omega
        | vote h1 h4 hI =>
          subst h1
          have HI2 := Lib.hid hI
          clear hI hE hA hnew
          rw [h4]
          have HV4 := Lib.hid h4
          have HVn : Hid (VosAt wc (.slice ar n cr) V) := by rw [← h4]; exact HVc
          clear h4
          go_wp2
          go_roundw
          case rel => exact ⟨k + 1, V, G, now2, by omega, by go_num, rfl, HVn, HGc, HKL1, HI2, HBw⟩
          case measure => simp [intOf]; omega
        | got h1 h4 hI =>
          subst h1
          have HI2 := Lib.hid hI
          clear hI hE hA
          rw [h4]
          have HVn : Hid (VosAt wc (.slice ar n cr) V) := by rw [← h4]; exact HVc
          have HNW := Lib.hid (show V ≠ [] → ∀ g, blk (.slice ar n cr) = some g → u9.ownBlock ≠ some g from fun _ g hg hu => by
            have h5 := hnew g (by rw [h4]; exact hg)
            have h6 := (HGq.out.lt g hu).2
            omega)
          clear h4 hnew
          have x0 := HCc.out.c 0 rfl
          have x1 := HCc.out.c 1 rfl
          have x2 := HCc.out.c 2 rfl
          have HGL2 := HGL.out
          have hszc := HBw.out.size
          go_wp2_with (at_builtin; refine wpList_append_own _ rfl _ _ 41 rfl w.heap.size 45 i0 _ 4 32 Try.underlying41 hi hz0 hz1 hz2 rfl (by decide) _ _ _ rfl (HGc.out.alloc _) ⟨wc.heap.size, 0, none⟩ 1 1 [.int .i64 h, .int .i64 f, .int .i64 u, .int .i64 now2] rfl rfl (cell_four_new _ _ _ _ _ _ _ rfl) (by simp [Value.oneCell']) (by unfold maxLen; omega) (by omega) (by simp; omega) ?_; intro v' w1 hown hgrow _; have HR2 := Lib.hid hown; have HB2 := Lib.hid (below_own (Nat.le_refl _) HBw.out HGc.out hgrow); have HV2 := Lib.hid ((HVn.out.step (al _ _)).grown hgrow HNW.out); clear hown hgrow)
          go_roundw
          case rel => exact ⟨k + 1, V, G ++ [⟨h, f, u, now2⟩], now2, by omega, by go_num, rfl, HV2, by rw [gcs_app, gcs_one, List.length_append]; exact HR2, by rw [List.length_append]; exact HKL, HI2, HB2⟩
          case measure => simp [intOf]; omega
    · obtain rfl : k = T.length := by omega
      have HQ := Lib.hid (gos_of_row rfl (by have := HGL.out; unfold maxLen; omega) HG.out)
      go_wp2
      exact bodyPost_ret (by simp [results, Try.results19, go_sem]) rfl (PlayPost.mk HV.out HQ.out HI.out HGL.out HB.out)
end Go.Proofs.Ytelohejnbfefoaa
