import Derived.Test.YteodafhgfcbdpaaUo
import Derived.Test.YteodafhgfcbdpaaUq
namespace Go.Proofs.Yteodafhgfcbdpaa
open Go.RowKit

theorem spL_lenT (s : Int) (D : List Int) : (spL s D 0).length = chN D.length s.toNat := by unfold spL; rw [if_pos rfl, spP_len]
theorem NlR.step {N : Nat} {L : List (List Int)} {u : Value} {w w' : World} (h : NlR N L u w) (hb : Below w.heap.size w w') : NlR N L u w' := ⟨h.1.step hb, h.2.1, fun g off n c e => ⟨(h.2.2 g off n c e).1, (h.2.2 g off n c e).2.1, (h.2.2 g off n c e).2.2.step hb⟩⟩
theorem NlR.low {N N' : Nat} {L : List (List Int)} {u : Value} {w : World} (h : NlR N L u w) (hb : N' ≤ N) : NlR N' L u w := ⟨h.1, h.2.1, fun g off n c e => ⟨Nat.le_trans hb (h.2.2 g off n c e).1, (h.2.2 g off n c e).2⟩⟩
theorem ints_nil_any {w w' : World} {v : Value} (h : IntsAt w v []) : IntsAt w' v [] := by
  obtain ⟨a, c, e, hm, -⟩ := h
  exact ⟨a, c, e, hm, fun q => absurd rfl q⟩
theorem NlR.set {N B : Nat} {L : List (List Int)} {u : Value} {w : World} (h : NlR N L u w) (hB : B < N) (j : Nat) (x : Value) : NlR N L u (w.setCell ⟨B, j, none⟩ x) := by
  obtain ⟨⟨a, c, rfl, hm, h1⟩, h2, h3⟩ := h
  refine ⟨⟨a, c, rfl, hm, fun hl => ?_⟩, h2, fun g off n c e => ⟨(h3 g off n c e).1, (h3 g off n c e).2.1, (h3 g off n c e).2.2.away (by have := (h3 g off n c e).1; omega) j x⟩⟩
  obtain ⟨b, off, rfl, hx⟩ := h1 hl
  have hb := (h3 b off _ _ rfl).1
  refine ⟨b, off, rfl, fun i y hi => ?_⟩
  obtain ⟨z, z1, z2⟩ := hx i y hi
  have hy := h2 y (List.mem_of_getElem? hi)
  subst hy
  exact ⟨z, (World.cell?_of_block (a := ⟨b, off + i, none⟩) (Below.heap_setCell w ⟨B, j, none⟩ x b (by show b ≠ B; omega))).trans z1, ints_nil_any z2⟩
theorem NlR.own {N n : Nat} {u : Value} {w : World} (h : NlR N (List.replicate n []) u w) : OwR 0 0 (List.replicate n []) u w := by
  obtain ⟨⟨a, c, rfl, hm, h1⟩, h2, h3⟩ := h
  refine ⟨a, c, rfl, hm, fun hl => ?_⟩
  obtain ⟨b, off, rfl, -⟩ := h1 hl
  obtain ⟨-, rfl, hx⟩ := h3 b off _ _ rfl
  rw [List.length_replicate] at hx
  refine ⟨b, rfl, Nat.zero_le _, hx.lt, fun i hi => ⟨hx.frz i, .slice none 0 0, ?_, ?_, fun hne => ?_, ?_⟩⟩
  · rw [List.length_replicate] at hi
    rw [hx.cell]
    simp [hi]
  · rw [show (List.replicate n ([] : List Int)).getD i [] = [] by simp [List.getD_eq_getElem?_getD, List.getElem?_replicate]; split <;> rfl]
    exact ints_nil w
  · exact absurd (by simp [List.getD_eq_getElem?_getD, List.getElem?_replicate]; split <;> rfl) hne
  · unfold tyB
    rw [show w.heap[b]? = _ from hx]
    rfl
/-- What 'begun' returns. -/
def BgP (M : Mf) (l : List Pc) (L : List (List Int)) (b : Bool) (w : World) (e : Ending) (w' : World) : Prop :=
  ∃ pv sv, e = .returned (.tuple #[.agg #[.int .i64 M.v, .int .i64 M.c, .int .i64 M.s, .int .i64 M.r, .int .i64 M.t, sv], pv, .bool b]) ∧ PcsR w.heap.size l pv w' ∧ l.length ≤ 64 ∧ NlR w.heap.size L sv w' ∧ Below w.heap.size w w'
theorem bgE_zero (key vm : Int) : bgE key vm zMf = 1 := by
  unfold bgE
  rw [show mfB zMf = false from by decide, Bool.and_false, Bool.and_false, if_pos rfl]
set_option maxRecDepth 100000 in
set_option maxHeartbeats 8000000 in
theorem begun_n (key ver s : Int) (v : Value) (D : List Int) (w : World) (h : IntsAt w v D) (hcp : ∀ a n c, v = .slice a n c → n ≤ c) (hN : spE key ver s D ≠ 0) : Calls Try.prog 24 #[.int .i64 key, .int .i64 ver, .int .i64 s, v] w (BgP zMf [] [] false w) := by
  have H0 := Lib.hid (Below.refl w.heap.size w)
  have H1 := Lib.hid (h)
  replace hN := Lib.hid hN
  obtain ⟨va, vc, rfl, hm, -⟩ := h
  unfold maxLen at hm
  replace hm := Lib.hid hm
  replace hcp := Lib.hid (hcp _ _ _ rfl)
  have H2 := Lib.hid (H1.out.step (al w (.cells #[.int .i64 0, .int .i64 0, .int .i64 0, .int .i64 0, .int .i64 0, .slice none 0 0] 27)))
  clear H1
  have H3 := Lib.hid (keep2 (al w (.cells #[.int .i64 0, .int .i64 0, .int .i64 0, .int .i64 0, .int .i64 0, .slice none 0 0] 27)) H0.out)
  clear H0
  have H4 := Lib.hid (Cs.new w (w.heap.size) #[.int .i64 0, .int .i64 0, .int .i64 0, .int .i64 0, .int .i64 0, .slice none 0 0] 27 (by simp))
  go_enter Try.func24, Try.ntmps24
  have xz0 : (w.alloc (.cells #[.int .i64 0, .int .i64 0, .int .i64 0, .int .i64 0, .int .i64 0, .slice none 0 0] 27)).cell? ⟨(w.heap.size), 0, none⟩ = some (.int .i64 0) := H4.out.c 0 rfl
  have xz1 : (w.alloc (.cells #[.int .i64 0, .int .i64 0, .int .i64 0, .int .i64 0, .int .i64 0, .slice none 0 0] 27)).cell? ⟨(w.heap.size), 1, none⟩ = some (.int .i64 0) := H4.out.c 1 rfl
  have xz2 : (w.alloc (.cells #[.int .i64 0, .int .i64 0, .int .i64 0, .int .i64 0, .int .i64 0, .slice none 0 0] 27)).cell? ⟨(w.heap.size), 2, none⟩ = some (.int .i64 0) := H4.out.c 2 rfl
  have xz3 : (w.alloc (.cells #[.int .i64 0, .int .i64 0, .int .i64 0, .int .i64 0, .int .i64 0, .slice none 0 0] 27)).cell? ⟨(w.heap.size), 3, none⟩ = some (.int .i64 0) := H4.out.c 3 rfl
  have xz4 : (w.alloc (.cells #[.int .i64 0, .int .i64 0, .int .i64 0, .int .i64 0, .int .i64 0, .slice none 0 0] 27)).cell? ⟨(w.heap.size), 4, none⟩ = some (.int .i64 0) := H4.out.c 4 rfl
  have xz5 : (w.alloc (.cells #[.int .i64 0, .int .i64 0, .int .i64 0, .int .i64 0, .int .i64 0, .slice none 0 0] 27)).cell? ⟨(w.heap.size), 5, none⟩ = some (.slice none 0 0) := H4.out.c 5 rfl
  have zz : (w.heap.size) < (w.alloc (.cells #[.int .i64 0, .int .i64 0, .int .i64 0, .int .i64 0, .int .i64 0, .slice none 0 0] 27)).heap.size := H4.out.2.2
  go_wp2_with fail
  clear xz0 xz1 xz2 xz3 xz4 xz5 zz
  have HZ1 := Lib.hid (H4.out.2.2)
  obtain ⟨E, hE⟩ : ∃ z, spE key ver s D = z := ⟨_, rfl⟩
  replace hE := Lib.hid hE
  have HN := Lib.hid (show ¬ E = 0 from fun q => hN.out (hE.out.trans q))
  refine (split_own key ver s va vc D _ H2.out (by have := hm.out; omega) hcp.out hE.out (M := zMf) (l := []) (if_neg HN.out) (if_neg HN.out)).mono ?_
  rintro e u1 ⟨pv, rfl, hu, hl64, b1⟩
  have H5 := Lib.hid (H2.out.step b1)
  clear H2
  have H6 := Lib.hid (H4.out.step b1)
  clear H4
  have H7 := Lib.hid (keep2 b1 H3.out)
  clear H3
  clear b1
  dsimp only [zMf]
  obtain ⟨ua, uc, rfl⟩ : ∃ (a : Option Addr) (c : Nat), pv = .slice a 0 c := by
    obtain ⟨a, c, -, e, -⟩ := hu.row
    exact ⟨a, c, e⟩
  have H8 := Lib.hid (hu)
  clear hu
  have H9 := Lib.hid (H5.out.step (al u1 (.cells #[.int .i64 0, .int .i64 0, .int .i64 0, .int .i64 0, .int .i64 0] 24)))
  clear H5
  have H10 := Lib.hid (H6.out.step (al u1 (.cells #[.int .i64 0, .int .i64 0, .int .i64 0, .int .i64 0, .int .i64 0] 24)))
  clear H6
  have H11 := Lib.hid (H8.out.step (al u1 (.cells #[.int .i64 0, .int .i64 0, .int .i64 0, .int .i64 0, .int .i64 0] 24)))
  clear H8
  have H12 := Lib.hid (keep2 (al u1 (.cells #[.int .i64 0, .int .i64 0, .int .i64 0, .int .i64 0, .int .i64 0] 24)) H7.out)
  clear H7
  have H13 := Lib.hid (Cs.new u1 (u1.heap.size) #[.int .i64 0, .int .i64 0, .int .i64 0, .int .i64 0, .int .i64 0] 24 (by simp))
  have xz0 : (u1.alloc (.cells #[.int .i64 0, .int .i64 0, .int .i64 0, .int .i64 0, .int .i64 0] 24)).cell? ⟨(w.heap.size), 0, none⟩ = some (.int .i64 0) := H10.out.c 0 rfl
  have xz1 : (u1.alloc (.cells #[.int .i64 0, .int .i64 0, .int .i64 0, .int .i64 0, .int .i64 0] 24)).cell? ⟨(w.heap.size), 1, none⟩ = some (.int .i64 0) := H10.out.c 1 rfl
  have xz2 : (u1.alloc (.cells #[.int .i64 0, .int .i64 0, .int .i64 0, .int .i64 0, .int .i64 0] 24)).cell? ⟨(w.heap.size), 2, none⟩ = some (.int .i64 0) := H10.out.c 2 rfl
  have xz3 : (u1.alloc (.cells #[.int .i64 0, .int .i64 0, .int .i64 0, .int .i64 0, .int .i64 0] 24)).cell? ⟨(w.heap.size), 3, none⟩ = some (.int .i64 0) := H10.out.c 3 rfl
  have xz4 : (u1.alloc (.cells #[.int .i64 0, .int .i64 0, .int .i64 0, .int .i64 0, .int .i64 0] 24)).cell? ⟨(w.heap.size), 4, none⟩ = some (.int .i64 0) := H10.out.c 4 rfl
  have xz5 : (u1.alloc (.cells #[.int .i64 0, .int .i64 0, .int .i64 0, .int .i64 0, .int .i64 0] 24)).cell? ⟨(w.heap.size), 5, none⟩ = some (.slice none 0 0) := H10.out.c 5 rfl
  have zz : (w.heap.size) < (u1.alloc (.cells #[.int .i64 0, .int .i64 0, .int .i64 0, .int .i64 0, .int .i64 0] 24)).heap.size := H10.out.2.2
  have xm0 : (u1.alloc (.cells #[.int .i64 0, .int .i64 0, .int .i64 0, .int .i64 0, .int .i64 0] 24)).cell? ⟨(u1.heap.size), 0, none⟩ = some (.int .i64 0) := H13.out.c 0 rfl
  have xm1 : (u1.alloc (.cells #[.int .i64 0, .int .i64 0, .int .i64 0, .int .i64 0, .int .i64 0] 24)).cell? ⟨(u1.heap.size), 1, none⟩ = some (.int .i64 0) := H13.out.c 1 rfl
  have xm2 : (u1.alloc (.cells #[.int .i64 0, .int .i64 0, .int .i64 0, .int .i64 0, .int .i64 0] 24)).cell? ⟨(u1.heap.size), 2, none⟩ = some (.int .i64 0) := H13.out.c 2 rfl
  have xm3 : (u1.alloc (.cells #[.int .i64 0, .int .i64 0, .int .i64 0, .int .i64 0, .int .i64 0] 24)).cell? ⟨(u1.heap.size), 3, none⟩ = some (.int .i64 0) := H13.out.c 3 rfl
  have xm4 : (u1.alloc (.cells #[.int .i64 0, .int .i64 0, .int .i64 0, .int .i64 0, .int .i64 0] 24)).cell? ⟨(u1.heap.size), 4, none⟩ = some (.int .i64 0) := H13.out.c 4 rfl
  have zm : (u1.heap.size) < (u1.alloc (.cells #[.int .i64 0, .int .i64 0, .int .i64 0, .int .i64 0, .int .i64 0] 24)).heap.size := H13.out.2.2
  obtain ⟨vm, hvm⟩ : ∃ z, wrap64 (ver - 1) = z := ⟨_, rfl⟩
  go_wp2_with fail
  have HZ2 := Lib.hid (H10.out.2.2)
  refine (begin_own key vm zMf (bgE_zero key vm) (M' := zMf) (if_neg (by decide)) (L' := []) (if_neg (by decide)) _).mono ?_
  rintro e u2 ⟨sv, rfl, hu2, b2⟩
  clear xz0 xz1 xz2 xz3 xz4 xz5 zz xm0 xm1 xm2 xm3 xm4 zm
  have H14 := Lib.hid (H9.out.step b2)
  clear H9
  have H15 := Lib.hid (H10.out.step b2)
  clear H10
  have H16 := Lib.hid (H11.out.step b2)
  clear H11
  have H17 := Lib.hid (H13.out.step b2)
  clear H13
  have H18 := Lib.hid (keep2 b2 H12.out)
  clear H12
  clear b2
  dsimp only [zMf]
  clear hvm
  obtain ⟨uba, ubc, rfl, -⟩ : ∃ (a : Option Addr) (c : Nat), sv = .slice a 0 c ∧ True := by
    obtain ⟨a, c, e, -⟩ := hu2.1
    exact ⟨a, c, e, trivial⟩
  have H19 := Lib.hid (hu2)
  clear hu2
  have HZ3 := Lib.hid (H15.out.2.2)
  have H20 := Lib.hid (H14.out.step (al u2 (.cells #[.int .i64 0, .int .i64 0, .int .i64 0, .int .i64 0, .int .i64 0, .slice uba 0 ubc] 27)))
  clear H14
  have H21 := Lib.hid (H15.out.step (al u2 (.cells #[.int .i64 0, .int .i64 0, .int .i64 0, .int .i64 0, .int .i64 0, .slice uba 0 ubc] 27)))
  clear H15
  have H22 := Lib.hid (H16.out.step (al u2 (.cells #[.int .i64 0, .int .i64 0, .int .i64 0, .int .i64 0, .int .i64 0, .slice uba 0 ubc] 27)))
  clear H16
  have H23 := Lib.hid (H17.out.step (al u2 (.cells #[.int .i64 0, .int .i64 0, .int .i64 0, .int .i64 0, .int .i64 0, .slice uba 0 ubc] 27)))
  clear H17
  have H24 := Lib.hid (H19.out.step (al u2 (.cells #[.int .i64 0, .int .i64 0, .int .i64 0, .int .i64 0, .int .i64 0, .slice uba 0 ubc] 27)))
  clear H19
  have H25 := Lib.hid (keep2 (al u2 (.cells #[.int .i64 0, .int .i64 0, .int .i64 0, .int .i64 0, .int .i64 0, .slice uba 0 ubc] 27)) H18.out)
  clear H18
  have H26 := Lib.hid (Cs.new u2 (u2.heap.size) #[.int .i64 0, .int .i64 0, .int .i64 0, .int .i64 0, .int .i64 0, .slice uba 0 ubc] 27 (by simp))
  have xz0 : (u2.alloc (.cells #[.int .i64 0, .int .i64 0, .int .i64 0, .int .i64 0, .int .i64 0, .slice uba 0 ubc] 27)).cell? ⟨(w.heap.size), 0, none⟩ = some (.int .i64 0) := H21.out.c 0 rfl
  have xz1 : (u2.alloc (.cells #[.int .i64 0, .int .i64 0, .int .i64 0, .int .i64 0, .int .i64 0, .slice uba 0 ubc] 27)).cell? ⟨(w.heap.size), 1, none⟩ = some (.int .i64 0) := H21.out.c 1 rfl
  have xz2 : (u2.alloc (.cells #[.int .i64 0, .int .i64 0, .int .i64 0, .int .i64 0, .int .i64 0, .slice uba 0 ubc] 27)).cell? ⟨(w.heap.size), 2, none⟩ = some (.int .i64 0) := H21.out.c 2 rfl
  have xz3 : (u2.alloc (.cells #[.int .i64 0, .int .i64 0, .int .i64 0, .int .i64 0, .int .i64 0, .slice uba 0 ubc] 27)).cell? ⟨(w.heap.size), 3, none⟩ = some (.int .i64 0) := H21.out.c 3 rfl
  have xz4 : (u2.alloc (.cells #[.int .i64 0, .int .i64 0, .int .i64 0, .int .i64 0, .int .i64 0, .slice uba 0 ubc] 27)).cell? ⟨(w.heap.size), 4, none⟩ = some (.int .i64 0) := H21.out.c 4 rfl
  have xz5 : (u2.alloc (.cells #[.int .i64 0, .int .i64 0, .int .i64 0, .int .i64 0, .int .i64 0, .slice uba 0 ubc] 27)).cell? ⟨(w.heap.size), 5, none⟩ = some (.slice none 0 0) := H21.out.c 5 rfl
  have zz : (w.heap.size) < (u2.alloc (.cells #[.int .i64 0, .int .i64 0, .int .i64 0, .int .i64 0, .int .i64 0, .slice uba 0 ubc] 27)).heap.size := H21.out.2.2
  have xt0 : (u2.alloc (.cells #[.int .i64 0, .int .i64 0, .int .i64 0, .int .i64 0, .int .i64 0, .slice uba 0 ubc] 27)).cell? ⟨(u2.heap.size), 0, none⟩ = some (.int .i64 0) := H26.out.c 0 rfl
  have xt1 : (u2.alloc (.cells #[.int .i64 0, .int .i64 0, .int .i64 0, .int .i64 0, .int .i64 0, .slice uba 0 ubc] 27)).cell? ⟨(u2.heap.size), 1, none⟩ = some (.int .i64 0) := H26.out.c 1 rfl
  have xt2 : (u2.alloc (.cells #[.int .i64 0, .int .i64 0, .int .i64 0, .int .i64 0, .int .i64 0, .slice uba 0 ubc] 27)).cell? ⟨(u2.heap.size), 2, none⟩ = some (.int .i64 0) := H26.out.c 2 rfl
  have xt3 : (u2.alloc (.cells #[.int .i64 0, .int .i64 0, .int .i64 0, .int .i64 0, .int .i64 0, .slice uba 0 ubc] 27)).cell? ⟨(u2.heap.size), 3, none⟩ = some (.int .i64 0) := H26.out.c 3 rfl
  have xt4 : (u2.alloc (.cells #[.int .i64 0, .int .i64 0, .int .i64 0, .int .i64 0, .int .i64 0, .slice uba 0 ubc] 27)).cell? ⟨(u2.heap.size), 4, none⟩ = some (.int .i64 0) := H26.out.c 4 rfl
  have xt5 : (u2.alloc (.cells #[.int .i64 0, .int .i64 0, .int .i64 0, .int .i64 0, .int .i64 0, .slice uba 0 ubc] 27)).cell? ⟨(u2.heap.size), 5, none⟩ = some (.slice uba 0 ubc) := H26.out.c 5 rfl
  have zt : (u2.heap.size) < (u2.alloc (.cells #[.int .i64 0, .int .i64 0, .int .i64 0, .int .i64 0, .int .i64 0, .slice uba 0 ubc] 27)).heap.size := H26.out.2.2
  go_upto_region 3 with fail
  clear xz0 xz1 xz2 xz3 xz4 xz5 zz xt0 xt1 xt2 xt3 xt4 xt5 zt
  clear H23
  obtain ⟨U3, hU3⟩ : ∃ z9, (u2.alloc (.cells #[.int .i64 0, .int .i64 0, .int .i64 0, .int .i64 0, .int .i64 0, .slice uba 0 ubc] 27)) = z9 := ⟨_, rfl⟩
  rw [hU3] at H20 H21 H22 H24 H26 H25 ⊢
  clear hU3
  have HTZ := Lib.hid (show (u2.heap.size) ≠ (w.heap.size) by have := HZ3.out; omega)
  obtain ⟨lit, hlit⟩ : ∃ lit : (Nat → Value) → Act, lit = fun vs => { tmps := List.toArray (Value.int IntKind.i64 key :: Value.int IntKind.i64 ver :: Value.int IntKind.i64 s :: Value.slice va D.length vc :: undef :: undef :: undef :: undef :: Value.pointer (some { block := w.heap.size, off := 0 }) :: vs 22 :: vs 23 :: Value.pointer (some { block := u1.heap.size, off := 0 }) :: Value.slice ua 0 uc :: Value.int IntKind.i64 E :: Value.pointer (some { block := u2.heap.size, off := 0 }) :: Value.int IntKind.i64 1 :: Value.tuple #[Value.agg #[Value.int IntKind.i64 0, Value.int IntKind.i64 0, Value.int IntKind.i64 0, Value.int IntKind.i64 0, Value.int IntKind.i64 0], Value.slice ua 0 uc, Value.int IntKind.i64 E] :: Value.int IntKind.i64 key :: Value.int IntKind.i64 ver :: Value.int IntKind.i64 s :: Value.slice va D.length vc :: Value.tuple #[Value.agg #[Value.int IntKind.i64 0, Value.int IntKind.i64 0, Value.int IntKind.i64 0, Value.int IntKind.i64 0, Value.int IntKind.i64 0], Value.slice ua 0 uc, Value.int IntKind.i64 E] :: Value.agg #[Value.int IntKind.i64 0, Value.int IntKind.i64 0, Value.int IntKind.i64 0, Value.int IntKind.i64 0, Value.int IntKind.i64 0] :: Value.slice ua 0 uc :: Value.int IntKind.i64 E :: Value.tuple #[Value.agg #[Value.int IntKind.i64 0, Value.int IntKind.i64 0, Value.int IntKind.i64 0, Value.int IntKind.i64 0, Value.int IntKind.i64 0, Value.slice uba 0 ubc], Value.int IntKind.i64 1] :: Value.int IntKind.i64 key :: Value.int IntKind.i64 ver :: Value.int IntKind.i64 (wrap64 (ver - 1)) :: Value.agg #[Value.int IntKind.i64 0, Value.int IntKind.i64 0, Value.int IntKind.i64 0, Value.int IntKind.i64 0, Value.int IntKind.i64 0] :: Value.tuple #[Value.agg #[Value.int IntKind.i64 0, Value.int IntKind.i64 0, Value.int IntKind.i64 0, Value.int IntKind.i64 0, Value.int IntKind.i64 0, Value.slice uba 0 ubc], Value.int IntKind.i64 1] :: Value.agg #[Value.int IntKind.i64 0, Value.int IntKind.i64 0, Value.int IntKind.i64 0, Value.int IntKind.i64 0, Value.int IntKind.i64 0, Value.slice uba 0 ubc] :: Value.int IntKind.i64 1 :: vs 0 :: vs 1 :: vs 2 :: vs 3 :: vs 4 :: vs 5 :: vs 6 :: vs 7 :: vs 8 :: vs 9 :: vs 10 :: vs 11 :: vs 12 :: vs 13 :: vs 14 :: vs 15 :: vs 16 :: vs 17 :: vs 18 :: vs 19 :: vs 20 :: []), defers := [] } := ⟨_, rfl⟩
  have HLIT := Lib.hid hlit
  clear hlit
  obtain ⟨val, hval⟩ : ∃ val : List Value, val = [.agg #[.int .i64 0, .int .i64 0, .int .i64 0, .int .i64 0, .int .i64 0, .slice uba 0 ubc], .slice ua 0 uc, .int .i64 E, .bool false, .bool false, undef, undef, .bool false, .bool false, undef, undef, undef, .bool false, .bool false, undef, undef, undef, undef, undef, undef, .bool false, undef, .slice ua 0 uc, .bool false] := ⟨_, rfl⟩
  have E0 := Lib.hid (show val.getD 0 undef = .agg #[.int .i64 0, .int .i64 0, .int .i64 0, .int .i64 0, .int .i64 0, .slice uba 0 ubc] by rw [hval]; rfl)
  have E1 := Lib.hid (show val.getD 1 undef = .slice ua 0 uc by rw [hval]; rfl)
  have E2 := Lib.hid (show val.getD 2 undef = .int .i64 E by rw [hval]; rfl)
  have E3 := Lib.hid (show val.getD 3 undef = .bool false by rw [hval]; rfl)
  have E4 := Lib.hid (show val.getD 4 undef = .bool false by rw [hval]; rfl)
  have E5 := Lib.hid (show val.getD 5 undef = undef by rw [hval]; rfl)
  have E6 := Lib.hid (show val.getD 6 undef = undef by rw [hval]; rfl)
  have E7 := Lib.hid (show val.getD 7 undef = .bool false by rw [hval]; rfl)
  have E8 := Lib.hid (show val.getD 8 undef = .bool false by rw [hval]; rfl)
  have E9 := Lib.hid (show val.getD 9 undef = undef by rw [hval]; rfl)
  have E10 := Lib.hid (show val.getD 10 undef = undef by rw [hval]; rfl)
  have E11 := Lib.hid (show val.getD 11 undef = undef by rw [hval]; rfl)
  have E12 := Lib.hid (show val.getD 12 undef = .bool false by rw [hval]; rfl)
  have E13 := Lib.hid (show val.getD 13 undef = .bool false by rw [hval]; rfl)
  have E14 := Lib.hid (show val.getD 14 undef = undef by rw [hval]; rfl)
  have E15 := Lib.hid (show val.getD 15 undef = undef by rw [hval]; rfl)
  have E16 := Lib.hid (show val.getD 16 undef = undef by rw [hval]; rfl)
  have E17 := Lib.hid (show val.getD 17 undef = undef by rw [hval]; rfl)
  have E18 := Lib.hid (show val.getD 18 undef = undef by rw [hval]; rfl)
  have E19 := Lib.hid (show val.getD 19 undef = undef by rw [hval]; rfl)
  have E20 := Lib.hid (show val.getD 20 undef = .bool false by rw [hval]; rfl)
  have E22 := Lib.hid (show val.getD 22 undef = .slice ua 0 uc by rw [hval]; rfl)
  have E23 := Lib.hid (show val.getD 23 undef = .bool false by rw [hval]; rfl)
  clear hval
  obtain ⟨G, hG0⟩ : ∃ G : Bool → Nat → Value → World → Prop, G = (fun bq iq vq ww => (iq ≠ 21 → vq = val.getD iq undef)) := ⟨_, rfl⟩
  have HG := Lib.hid hG0
  clear hG0
  refine region_inv (NS lit 21 (fun p q => (p == 21 && q == 0)) G fun bq wv => (bq = false → Below U3.heap.size U3 wv) ∧ (bq = true → Cs wv (w.heap.size) #[.int .i64 0, .int .i64 0, .int .i64 0, .int .i64 0, .int .i64 0, .slice uba 0 ubc] ∧ Cs wv (u2.heap.size) #[.int .i64 0, .int .i64 0, .int .i64 0, .int .i64 0, .int .i64 0, .slice uba 0 ubc] ∧ PcsR (w.alloc (.cells #[.int .i64 0, .int .i64 0, .int .i64 0, .int .i64 0, .int .i64 0, .slice none 0 0] 27)).heap.size [] (.slice ua 0 uc) wv ∧ NlR (u1.alloc (.cells #[.int .i64 0, .int .i64 0, .int .i64 0, .int .i64 0, .int .i64 0] 24)).heap.size [] (.slice uba 0 ubc) wv ∧ Below w.heap.size w wv)) (by kernel_rfl) (by decide +kernel) ?_ ?_ ?_
  · exact NS.start (fun i => ([undef, undef, undef, undef, undef, undef, undef, undef, undef, undef, undef, undef, undef, undef, undef, undef, undef, undef, undef, undef, undef, undef, Value.slice none 0 0, Value.bool false] : List Value).getD i undef) (by rw [HLIT.out]; rfl) ⟨fun _ => below_drew _ _, fun h => (by cases h)⟩
  · refine ⟨?_, ?_, ?_, ?_, ?_, ?_, ?_, ?_, ?_, ?_, ?_, ?_, ?_, ?_, ?_, ?_, ?_, ?_, ?_, ?_, ?_, ?_, ?_, ?_, trivial⟩
    · intro bf ac wv hfb haf hJ K' hK
      obtain ⟨vs, rfl, ja, hB, j4⟩ := hJ
      replace hK := Lib.hid hK
      rw [HG.out] at j4
      replace j4 := Lib.hid (And.intro ja j4)
      replace hB := Lib.hid hB
      clear ja haf
      have hC5 : Cs wv (u2.heap.size) #[.int .i64 0, .int .i64 0, .int .i64 0, .int .i64 0, .int .i64 0, .slice uba 0 ubc] := by
        cases hq : bf 21
        · exact H26.out.step (hB.out.1 hq)
        · exact (hB.out.2 hq).2.1
      have x0 := hC5.c 0 rfl
      have x1 := hC5.c 1 rfl
      have x2 := hC5.c 2 rfl
      have x3 := hC5.c 3 rfl
      have x4 := hC5.c 4 rfl
      have x5 := hC5.c 5 rfl
      have xz := hC5.2.2
      clear hC5
      rw [HLIT.out]
      go_simp
      exact hK.out _ _ (NS.next (wv := wv) (vs := vs) 0 (by omega) (fun q h => absurd h (by simp)) (x := .agg #[.int .i64 0, .int .i64 0, .int .i64 0, .int .i64 0, .int .i64 0, .slice uba 0 ubc]) (by rw [HLIT.out]; rfl) (by rw [HG.out]; exact j4.out) hB.out (by rw [HG.out]; exact fun _ _ h => h) (by rw [HG.out]; exact fun _ => E0.out.symm))
    · intro bf ac wv hfb haf hJ K' hK
      obtain ⟨vs, rfl, ja, hB, j4⟩ := hJ
      replace hK := Lib.hid hK
      rw [HG.out] at j4
      replace j4 := Lib.hid (And.intro ja j4)
      replace hB := Lib.hid hB
      clear ja haf
      rw [HLIT.out]
      go_simp
      exact hK.out _ _ (NS.next (wv := wv) (vs := vs) 1 (by omega) (fun q h => absurd h (by simp)) (x := .slice ua 0 uc) (by rw [HLIT.out]; rfl) (by rw [HG.out]; exact j4.out) hB.out (by rw [HG.out]; exact fun _ _ h => h) (by rw [HG.out]; exact fun _ => E1.out.symm))
    · intro bf ac wv hfb haf hJ K' hK
      obtain ⟨vs, rfl, ja, hB, j4⟩ := hJ
      replace hK := Lib.hid hK
      rw [HG.out] at j4
      replace j4 := Lib.hid (And.intro ja j4)
      replace hB := Lib.hid hB
      clear ja haf
      rw [HLIT.out]
      go_simp
      exact hK.out _ _ (NS.next (wv := wv) (vs := vs) 2 (by omega) (fun q h => absurd h (by simp)) (x := .int .i64 E) (by rw [HLIT.out]; rfl) (by rw [HG.out]; exact j4.out) hB.out (by rw [HG.out]; exact fun _ _ h => h) (by rw [HG.out]; exact fun _ => E2.out.symm))
    · intro bf ac wv hfb haf hJ K' hK
      obtain ⟨vs, rfl, ja, hB, j4⟩ := hJ
      replace hK := Lib.hid hK
      simp [Region.binds] at haf
      rw [HG.out] at j4
      have e2 := ((j4 2 (by simp [haf])) (by decide)).trans E2.out
      replace j4 := Lib.hid (And.intro ja j4)
      replace hB := Lib.hid hB
      clear ja haf
      have te : (E == 0) = false := by simpa using HN.out
      have te2 : (E = 0) = False := by simpa using HN.out
      have te3 : ¬ E = 0 := HN.out
      rw [HLIT.out]
      go_simp
      exact hK.out _ _ (NS.next (wv := wv) (vs := vs) 3 (by omega) (fun q h => absurd h (by simp)) (x := .bool false) (by rw [HLIT.out]; simp only [upv, e2, Nat.reduceBEq, cond_true, cond_false]) (by rw [HG.out]; exact j4.out) hB.out (by rw [HG.out]; exact fun _ _ h => h) (by rw [HG.out]; exact fun _ => E3.out.symm))
    · intro bf ac wv hfb haf hJ K' hK
      obtain ⟨vs, rfl, ja, hB, j4⟩ := hJ
      replace hK := Lib.hid hK
      simp [Region.binds] at haf
      rw [HG.out] at j4
      have e3 := ((j4 3 (by simp [haf])) (by decide)).trans E3.out
      replace j4 := Lib.hid (And.intro ja j4)
      replace hB := Lib.hid hB
      clear ja haf
      rw [HLIT.out]
      go_simp
      exact hK.out _ _ (NS.next (wv := wv) (vs := vs) 4 (by omega) (fun q h => absurd h (by simp)) (x := .bool false) (by rw [HLIT.out]; simp only [upv, e3, Nat.reduceBEq, cond_true, cond_false]) (by rw [HG.out]; exact j4.out) hB.out (by rw [HG.out]; exact fun _ _ h => h) (by rw [HG.out]; exact fun _ => E4.out.symm))
    · intro bf ac wv hfb haf hJ K' hK
      obtain ⟨vs, rfl, ja, hB, j4⟩ := hJ
      replace hK := Lib.hid hK
      simp [Region.binds] at haf
      rw [HG.out] at j4
      have e4 := ((j4 4 (by simp [haf])) (by decide)).trans E4.out
      replace j4 := Lib.hid (And.intro ja j4)
      replace hB := Lib.hid hB
      clear ja haf
      rw [HLIT.out]
      go_simp
      exact hK.out _ _ (NS.next (wv := wv) (vs := vs) 5 (by omega) (fun q h => absurd h (by simp)) (x := undef) (by rw [HLIT.out]; simp only [upv, e4, Nat.reduceBEq, cond_true, cond_false]) (by rw [HG.out]; exact j4.out) hB.out (by rw [HG.out]; exact fun _ _ h => h) (by rw [HG.out]; exact fun _ => E5.out.symm))
    · intro bf ac wv hfb haf hJ K' hK
      obtain ⟨vs, rfl, ja, hB, j4⟩ := hJ
      replace hK := Lib.hid hK
      simp [Region.binds] at haf
      rw [HG.out] at j4
      have e4 := ((j4 4 (by simp [haf])) (by decide)).trans E4.out
      replace j4 := Lib.hid (And.intro ja j4)
      replace hB := Lib.hid hB
      clear ja haf
      rw [HLIT.out]
      go_simp
      exact hK.out _ _ (NS.next (wv := wv) (vs := vs) 6 (by omega) (fun q h => absurd h (by simp)) (x := undef) (by rw [HLIT.out]; simp only [upv, e4, Nat.reduceBEq, cond_true, cond_false]) (by rw [HG.out]; exact j4.out) hB.out (by rw [HG.out]; exact fun _ _ h => h) (by rw [HG.out]; exact fun _ => E6.out.symm))
    · intro bf ac wv hfb haf hJ K' hK
      obtain ⟨vs, rfl, ja, hB, j4⟩ := hJ
      replace hK := Lib.hid hK
      simp [Region.binds] at haf
      rw [HG.out] at j4
      have e4 := ((j4 4 (by simp [haf])) (by decide)).trans E4.out
      have e6 := ((j4 6 (by simp [haf])) (by decide)).trans E6.out
      replace j4 := Lib.hid (And.intro ja j4)
      replace hB := Lib.hid hB
      clear ja haf
      rw [HLIT.out]
      go_simp
      exact hK.out _ _ (NS.next (wv := wv) (vs := vs) 7 (by omega) (fun q h => absurd h (by simp)) (x := .bool false) (by rw [HLIT.out]; simp only [upv, e4, e6, Nat.reduceBEq, cond_true, cond_false]) (by rw [HG.out]; exact j4.out) hB.out (by rw [HG.out]; exact fun _ _ h => h) (by rw [HG.out]; exact fun _ => E7.out.symm))
    · intro bf ac wv hfb haf hJ K' hK
      obtain ⟨vs, rfl, ja, hB, j4⟩ := hJ
      replace hK := Lib.hid hK
      simp [Region.binds] at haf
      rw [HG.out] at j4
      have e7 := ((j4 7 (by simp [haf])) (by decide)).trans E7.out
      replace j4 := Lib.hid (And.intro ja j4)
      replace hB := Lib.hid hB
      clear ja haf
      rw [HLIT.out]
      go_simp
      exact hK.out _ _ (NS.next (wv := wv) (vs := vs) 8 (by omega) (fun q h => absurd h (by simp)) (x := .bool false) (by rw [HLIT.out]; simp only [upv, e7, Nat.reduceBEq, cond_true, cond_false]) (by rw [HG.out]; exact j4.out) hB.out (by rw [HG.out]; exact fun _ _ h => h) (by rw [HG.out]; exact fun _ => E8.out.symm))
    · intro bf ac wv hfb haf hJ K' hK
      obtain ⟨vs, rfl, ja, hB, j4⟩ := hJ
      replace hK := Lib.hid hK
      simp [Region.binds] at haf
      rw [HG.out] at j4
      have e8 := ((j4 8 (by simp [haf])) (by decide)).trans E8.out
      replace j4 := Lib.hid (And.intro ja j4)
      replace hB := Lib.hid hB
      clear ja haf
      rw [HLIT.out]
      go_simp
      exact hK.out _ _ (NS.next (wv := wv) (vs := vs) 9 (by omega) (fun q h => absurd h (by simp)) (x := undef) (by rw [HLIT.out]; simp only [upv, e8, Nat.reduceBEq, cond_true, cond_false]) (by rw [HG.out]; exact j4.out) hB.out (by rw [HG.out]; exact fun _ _ h => h) (by rw [HG.out]; exact fun _ => E9.out.symm))
    · intro bf ac wv hfb haf hJ K' hK
      obtain ⟨vs, rfl, ja, hB, j4⟩ := hJ
      replace hK := Lib.hid hK
      simp [Region.binds] at haf
      rw [HG.out] at j4
      have e8 := ((j4 8 (by simp [haf])) (by decide)).trans E8.out
      replace j4 := Lib.hid (And.intro ja j4)
      replace hB := Lib.hid hB
      clear ja haf
      rw [HLIT.out]
      go_simp
      exact hK.out _ _ (NS.next (wv := wv) (vs := vs) 10 (by omega) (fun q h => absurd h (by simp)) (x := undef) (by rw [HLIT.out]; simp only [upv, e8, Nat.reduceBEq, cond_true, cond_false]) (by rw [HG.out]; exact j4.out) hB.out (by rw [HG.out]; exact fun _ _ h => h) (by rw [HG.out]; exact fun _ => E10.out.symm))
    · intro bf ac wv hfb haf hJ K' hK
      obtain ⟨vs, rfl, ja, hB, j4⟩ := hJ
      replace hK := Lib.hid hK
      simp [Region.binds] at haf
      rw [HG.out] at j4
      have e8 := ((j4 8 (by simp [haf])) (by decide)).trans E8.out
      replace j4 := Lib.hid (And.intro ja j4)
      replace hB := Lib.hid hB
      clear ja haf
      rw [HLIT.out]
      go_simp
      exact hK.out _ _ (NS.next (wv := wv) (vs := vs) 11 (by omega) (fun q h => absurd h (by simp)) (x := undef) (by rw [HLIT.out]; simp only [upv, e8, Nat.reduceBEq, cond_true, cond_false]) (by rw [HG.out]; exact j4.out) hB.out (by rw [HG.out]; exact fun _ _ h => h) (by rw [HG.out]; exact fun _ => E11.out.symm))
    · intro bf ac wv hfb haf hJ K' hK
      obtain ⟨vs, rfl, ja, hB, j4⟩ := hJ
      replace hK := Lib.hid hK
      simp [Region.binds] at haf
      rw [HG.out] at j4
      have e8 := ((j4 8 (by simp [haf])) (by decide)).trans E8.out
      have e11 := ((j4 11 (by simp [haf])) (by decide)).trans E11.out
      replace j4 := Lib.hid (And.intro ja j4)
      replace hB := Lib.hid hB
      clear ja haf
      rw [HLIT.out]
      go_simp
      exact hK.out _ _ (NS.next (wv := wv) (vs := vs) 12 (by omega) (fun q h => absurd h (by simp)) (x := .bool false) (by rw [HLIT.out]; simp only [upv, e8, e11, Nat.reduceBEq, cond_true, cond_false]) (by rw [HG.out]; exact j4.out) hB.out (by rw [HG.out]; exact fun _ _ h => h) (by rw [HG.out]; exact fun _ => E12.out.symm))
    · intro bf ac wv hfb haf hJ K' hK
      obtain ⟨vs, rfl, ja, hB, j4⟩ := hJ
      replace hK := Lib.hid hK
      simp [Region.binds] at haf
      rw [HG.out] at j4
      have e12 := ((j4 12 (by simp [haf])) (by decide)).trans E12.out
      replace j4 := Lib.hid (And.intro ja j4)
      replace hB := Lib.hid hB
      clear ja haf
      rw [HLIT.out]
      go_simp
      exact hK.out _ _ (NS.next (wv := wv) (vs := vs) 13 (by omega) (fun q h => absurd h (by simp)) (x := .bool false) (by rw [HLIT.out]; simp only [upv, e12, Nat.reduceBEq, cond_true, cond_false]) (by rw [HG.out]; exact j4.out) hB.out (by rw [HG.out]; exact fun _ _ h => h) (by rw [HG.out]; exact fun _ => E13.out.symm))
    · intro bf ac wv hfb haf hJ K' hK
      obtain ⟨vs, rfl, ja, hB, j4⟩ := hJ
      replace hK := Lib.hid hK
      simp [Region.binds] at haf
      rw [HG.out] at j4
      have e13 := ((j4 13 (by simp [haf])) (by decide)).trans E13.out
      replace j4 := Lib.hid (And.intro ja j4)
      replace hB := Lib.hid hB
      clear ja haf
      rw [HLIT.out]
      go_simp
      exact hK.out _ _ (NS.next (wv := wv) (vs := vs) 14 (by omega) (fun q h => absurd h (by simp)) (x := undef) (by rw [HLIT.out]; simp only [upv, e13, Nat.reduceBEq, cond_true, cond_false]) (by rw [HG.out]; exact j4.out) hB.out (by rw [HG.out]; exact fun _ _ h => h) (by rw [HG.out]; exact fun _ => E14.out.symm))
    · intro bf ac wv hfb haf hJ K' hK
      obtain ⟨vs, rfl, ja, hB, j4⟩ := hJ
      replace hK := Lib.hid hK
      simp [Region.binds] at haf
      rw [HG.out] at j4
      have e13 := ((j4 13 (by simp [haf])) (by decide)).trans E13.out
      replace j4 := Lib.hid (And.intro ja j4)
      replace hB := Lib.hid hB
      clear ja haf
      rw [HLIT.out]
      go_simp
      exact hK.out _ _ (NS.next (wv := wv) (vs := vs) 15 (by omega) (fun q h => absurd h (by simp)) (x := undef) (by rw [HLIT.out]; simp only [upv, e13, Nat.reduceBEq, cond_true, cond_false]) (by rw [HG.out]; exact j4.out) hB.out (by rw [HG.out]; exact fun _ _ h => h) (by rw [HG.out]; exact fun _ => E15.out.symm))
    · intro bf ac wv hfb haf hJ K' hK
      obtain ⟨vs, rfl, ja, hB, j4⟩ := hJ
      replace hK := Lib.hid hK
      simp [Region.binds] at haf
      rw [HG.out] at j4
      have e13 := ((j4 13 (by simp [haf])) (by decide)).trans E13.out
      replace j4 := Lib.hid (And.intro ja j4)
      replace hB := Lib.hid hB
      clear ja haf
      rw [HLIT.out]
      go_simp
      exact hK.out _ _ (NS.next (wv := wv) (vs := vs) 16 (by omega) (fun q h => absurd h (by simp)) (x := undef) (by rw [HLIT.out]; simp only [upv, e13, Nat.reduceBEq, cond_true, cond_false]) (by rw [HG.out]; exact j4.out) hB.out (by rw [HG.out]; exact fun _ _ h => h) (by rw [HG.out]; exact fun _ => E16.out.symm))
    · intro bf ac wv hfb haf hJ K' hK
      obtain ⟨vs, rfl, ja, hB, j4⟩ := hJ
      replace hK := Lib.hid hK
      simp [Region.binds] at haf
      rw [HG.out] at j4
      have e13 := ((j4 13 (by simp [haf])) (by decide)).trans E13.out
      replace j4 := Lib.hid (And.intro ja j4)
      replace hB := Lib.hid hB
      clear ja haf
      rw [HLIT.out]
      go_simp
      exact hK.out _ _ (NS.next (wv := wv) (vs := vs) 17 (by omega) (fun q h => absurd h (by simp)) (x := undef) (by rw [HLIT.out]; simp only [upv, e13, Nat.reduceBEq, cond_true, cond_false]) (by rw [HG.out]; exact j4.out) hB.out (by rw [HG.out]; exact fun _ _ h => h) (by rw [HG.out]; exact fun _ => E17.out.symm))
    · intro bf ac wv hfb haf hJ K' hK
      obtain ⟨vs, rfl, ja, hB, j4⟩ := hJ
      replace hK := Lib.hid hK
      simp [Region.binds] at haf
      rw [HG.out] at j4
      have e13 := ((j4 13 (by simp [haf])) (by decide)).trans E13.out
      replace j4 := Lib.hid (And.intro ja j4)
      replace hB := Lib.hid hB
      clear ja haf
      rw [HLIT.out]
      go_simp
      exact hK.out _ _ (NS.next (wv := wv) (vs := vs) 18 (by omega) (fun q h => absurd h (by simp)) (x := undef) (by rw [HLIT.out]; simp only [upv, e13, Nat.reduceBEq, cond_true, cond_false]) (by rw [HG.out]; exact j4.out) hB.out (by rw [HG.out]; exact fun _ _ h => h) (by rw [HG.out]; exact fun _ => E18.out.symm))
    · intro bf ac wv hfb haf hJ K' hK
      obtain ⟨vs, rfl, ja, hB, j4⟩ := hJ
      replace hK := Lib.hid hK
      simp [Region.binds] at haf
      rw [HG.out] at j4
      have e13 := ((j4 13 (by simp [haf])) (by decide)).trans E13.out
      replace j4 := Lib.hid (And.intro ja j4)
      replace hB := Lib.hid hB
      clear ja haf
      rw [HLIT.out]
      go_simp
      exact hK.out _ _ (NS.next (wv := wv) (vs := vs) 19 (by omega) (fun q h => absurd h (by simp)) (x := undef) (by rw [HLIT.out]; simp only [upv, e13, Nat.reduceBEq, cond_true, cond_false]) (by rw [HG.out]; exact j4.out) hB.out (by rw [HG.out]; exact fun _ _ h => h) (by rw [HG.out]; exact fun _ => E19.out.symm))
    · intro bf ac wv hfb haf hJ K' hK
      obtain ⟨vs, rfl, ja, hB, j4⟩ := hJ
      replace hK := Lib.hid hK
      simp [Region.binds] at haf
      rw [HG.out] at j4
      have e13 := ((j4 13 (by simp [haf])) (by decide)).trans E13.out
      have e19 := ((j4 19 (by simp [haf])) (by decide)).trans E19.out
      replace j4 := Lib.hid (And.intro ja j4)
      replace hB := Lib.hid hB
      clear ja haf
      rw [HLIT.out]
      go_simp
      exact hK.out _ _ (NS.next (wv := wv) (vs := vs) 20 (by omega) (fun q h => absurd h (by simp)) (x := .bool false) (by rw [HLIT.out]; simp only [upv, e13, e19, Nat.reduceBEq, cond_true, cond_false]) (by rw [HG.out]; exact j4.out) hB.out (by rw [HG.out]; exact fun _ _ h => h) (by rw [HG.out]; exact fun _ => E20.out.symm))
    · intro bf ac wv hfb haf hJ K' hK
      obtain ⟨vs, rfl, ja, hB, j4⟩ := hJ
      replace hK := Lib.hid hK
      simp [Region.binds] at haf
      rw [HG.out] at j4
      have e0 := ((j4 0 (by simp [haf])) (by decide)).trans E0.out
      rw [hfb] at j4 hB
      have HA := Lib.hid (show ∀ q, (fun p q => (p == 21 && q == 0)) 21 q = true → bf q = true from fun q hi => by
        obtain rfl : q = 0 := by simpa [or_assoc] using hi
        all_goals simp [haf])
      have hM := Lib.hid (hB.1 rfl)
      replace j4 := Lib.hid j4
      have HE := Lib.hid (And.intro ja HA.out)
      clear ja haf hB HA
      have hC := Lib.hid (H21.out.step hM.out)
      have x0 := hC.out.c 0 rfl
      have y0 := hC.out.f 0 (by simp)
      have x1 := hC.out.c 1 rfl
      have y1 := hC.out.f 1 (by simp)
      have x2 := hC.out.c 2 rfl
      have y2 := hC.out.f 2 (by simp)
      have x3 := hC.out.c 3 rfl
      have y3 := hC.out.f 3 (by simp)
      have x4 := hC.out.c 4 rfl
      have y4 := hC.out.f 4 (by simp)
      have x5 := hC.out.c 5 rfl
      have y5 := hC.out.f 5 (by simp)
      have xz := hC.out.2.2
      rw [HLIT.out]
      go_simp
      exact hK.out _ _ (NS.put (vs := vs) (w' := ((((((wv.setCell ⟨(w.heap.size), 0, none⟩ (.int .i64 0)).setCell ⟨(w.heap.size), 1, none⟩ (.int .i64 0)).setCell ⟨(w.heap.size), 2, none⟩ (.int .i64 0)).setCell ⟨(w.heap.size), 3, none⟩ (.int .i64 0)).setCell ⟨(w.heap.size), 4, none⟩ (.int .i64 0)).setCell ⟨(w.heap.size), 5, none⟩ (.slice uba 0 ubc))) (by rw [HLIT.out]; simp only [e0]) HE.out ⟨fun e => (by cases e), fun _ => ⟨(Cs.set (Cs.set (Cs.set (Cs.set (Cs.set (Cs.set hC.out 0 (by simp) (.int .i64 0) rfl) 1 (by simp) (.int .i64 0) rfl) 2 (by simp) (.int .i64 0) rfl) 3 (by simp) (.int .i64 0) rfl) 4 (by simp) (.int .i64 0) rfl) 5 (by simp) (.slice uba 0 ubc) (vs' := #[.int .i64 0, .int .i64 0, .int .i64 0, .int .i64 0, .int .i64 0, .slice uba 0 ubc]) rfl), (Cs.other (Cs.other (Cs.other (Cs.other (Cs.other (Cs.other (H26.out.step hM.out) HTZ.out 0 (.int .i64 0)) HTZ.out 1 (.int .i64 0)) HTZ.out 2 (.int .i64 0)) HTZ.out 3 (.int .i64 0)) HTZ.out 4 (.int .i64 0)) HTZ.out 5 (.slice uba 0 ubc)), (PcsR.set (PcsR.set (PcsR.set (PcsR.set (PcsR.set (PcsR.set (H22.out.step hM.out) HZ1.out 0 (.int .i64 0)) HZ1.out 1 (.int .i64 0)) HZ1.out 2 (.int .i64 0)) HZ1.out 3 (.int .i64 0)) HZ1.out 4 (.int .i64 0)) HZ1.out 5 (.slice uba 0 ubc)), (NlR.set (NlR.set (NlR.set (NlR.set (NlR.set (NlR.set (H24.out.step hM.out) HZ2.out 0 (.int .i64 0)) HZ2.out 1 (.int .i64 0)) HZ2.out 2 (.int .i64 0)) HZ2.out 3 (.int .i64 0)) HZ2.out 4 (.int .i64 0)) HZ2.out 5 (.slice uba 0 ubc)), (((((((keep2 hM.out H25.out).setCell (p := ⟨(w.heap.size), 0, none⟩) (Nat.le_refl _) (.int .i64 0)).setCell (p := ⟨(w.heap.size), 1, none⟩) (Nat.le_refl _) (.int .i64 0)).setCell (p := ⟨(w.heap.size), 2, none⟩) (Nat.le_refl _) (.int .i64 0)).setCell (p := ⟨(w.heap.size), 3, none⟩) (Nat.le_refl _) (.int .i64 0)).setCell (p := ⟨(w.heap.size), 4, none⟩) (Nat.le_refl _) (.int .i64 0)).setCell (p := ⟨(w.heap.size), 5, none⟩) (Nat.le_refl _) (.slice uba 0 ubc))⟩⟩ (fun j hj hb => by
        have q := j4.out j hb
        rw [HG.out]
        exact q) (fun v => by rw [HG.out]; exact fun h => absurd rfl h))
    · intro bf ac wv hfb haf hJ K' hK
      obtain ⟨vs, rfl, ja, hB, j4⟩ := hJ
      replace hK := Lib.hid hK
      simp [Region.binds] at haf
      rw [HG.out] at j4
      have e1 := ((j4 1 (by simp [haf])) (by decide)).trans E1.out
      replace j4 := Lib.hid (And.intro ja j4)
      replace hB := Lib.hid hB
      clear ja haf
      rw [HLIT.out]
      go_simp
      exact hK.out _ _ (NS.next (wv := wv) (vs := vs) 22 (by omega) (fun q h => absurd h (by simp)) (x := .slice ua 0 uc) (by rw [HLIT.out]; simp only [upv, e1, Nat.reduceBEq, cond_true, cond_false]) (by rw [HG.out]; exact j4.out) hB.out (by rw [HG.out]; exact fun _ _ h => h) (by rw [HG.out]; exact fun _ => E22.out.symm))
    · intro bf ac wv hfb haf hJ K' hK
      obtain ⟨vs, rfl, ja, hB, j4⟩ := hJ
      replace hK := Lib.hid hK
      simp [Region.binds] at haf
      rw [HG.out] at j4
      have e20 := ((j4 20 (by simp [haf])) (by decide)).trans E20.out
      replace j4 := Lib.hid (And.intro ja j4)
      replace hB := Lib.hid hB
      clear ja haf
      rw [HLIT.out]
      go_simp
      exact hK.out _ _ (NS.next (wv := wv) (vs := vs) 23 (by omega) (fun q h => absurd h (by simp)) (x := .bool false) (by rw [HLIT.out]; simp only [upv, e20, Nat.reduceBEq, cond_true, cond_false]) (by rw [HG.out]; exact j4.out) hB.out (by rw [HG.out]; exact fun _ _ h => h) (by rw [HG.out]; exact fun _ => E23.out.symm))
  · intro bf ac wv hall hJ
    obtain ⟨vs, rfl, -, hB, j4⟩ := hJ
    rw [HG.out] at j4
    rw [hall 21 (by decide)] at hB j4
    have hM := Lib.hid (hB.2 rfl)
    clear hB
    have e22 := ((j4 22 (hall 22 (by decide))) (by decide)).trans E22.out
    have e23 := ((j4 23 (hall 23 (by decide))) (by decide)).trans E23.out
    obtain ⟨hC, -, hp, hn, hbl⟩ := hM.out
    have HPP := Lib.hid hp
    have HNN := Lib.hid hn
    have HBL := Lib.hid hbl
    have k0 := hC.c 0 rfl
    have k1 := hC.c 1 rfl
    have k2 := hC.c 2 rfl
    have k3 := hC.c 3 rfl
    have k4 := hC.c 4 rfl
    have k5 := hC.c 5 rfl
    clear hM j4 hall hC hp hn hbl
    rw [HLIT.out]
    dsimp only
    rw [e22, e23]
    clear e22 e23
    go_wp2
    exact bodyPost_ret (v := .tuple #[.agg #[.int .i64 0, .int .i64 0, .int .i64 0, .int .i64 0, .int .i64 0, .slice uba 0 ubc], .slice ua 0 uc, .bool false]) (by simp [results, Try.results24, go_sem, k0, k1, k2, k3, k4, k5]) rfl ⟨_, _, rfl, HPP.out.low (by have := HZ1.out; omega), by simp, HNN.out.low (by have := HZ2.out; omega), HBL.out⟩
set_option maxRecDepth 100000 in
set_option maxHeartbeats 8000000 in
theorem begun_y (key ver s : Int) (v : Value) (D : List Int) (w : World) (h : IntsAt w v D) (hcp : ∀ a n c, v = .slice a n c → n ≤ c) (hE : spE key ver s D = 0) (M : Mf) (l : List Pc) (n : Nat) (hM : spM key ver s D 0 = M) (hl : spL s D 0 = l) (hln : l.length = n) : Calls Try.prog 24 #[.int .i64 key, .int .i64 ver, .int .i64 s, v] w (BgP M l (List.replicate n []) true w) := by
  have H0 := Lib.hid (Below.refl w.heap.size w)
  have H1 := Lib.hid (h)
  replace hE := Lib.hid hE
  replace hM := Lib.hid hM
  replace hl := Lib.hid hl
  replace hln := Lib.hid hln
  obtain ⟨va, vc, rfl, hm, -⟩ := h
  unfold maxLen at hm
  replace hm := Lib.hid hm
  replace hcp := Lib.hid (hcp _ _ _ rfl)
  have H2 := Lib.hid (H1.out.step (al w (.cells #[.int .i64 0, .int .i64 0, .int .i64 0, .int .i64 0, .int .i64 0, .slice none 0 0] 27)))
  clear H1
  have H3 := Lib.hid (keep2 (al w (.cells #[.int .i64 0, .int .i64 0, .int .i64 0, .int .i64 0, .int .i64 0, .slice none 0 0] 27)) H0.out)
  clear H0
  have H4 := Lib.hid (Cs.new w (w.heap.size) #[.int .i64 0, .int .i64 0, .int .i64 0, .int .i64 0, .int .i64 0, .slice none 0 0] 27 (by simp))
  go_enter Try.func24, Try.ntmps24
  have xz0 : (w.alloc (.cells #[.int .i64 0, .int .i64 0, .int .i64 0, .int .i64 0, .int .i64 0, .slice none 0 0] 27)).cell? ⟨(w.heap.size), 0, none⟩ = some (.int .i64 0) := H4.out.c 0 rfl
  have xz1 : (w.alloc (.cells #[.int .i64 0, .int .i64 0, .int .i64 0, .int .i64 0, .int .i64 0, .slice none 0 0] 27)).cell? ⟨(w.heap.size), 1, none⟩ = some (.int .i64 0) := H4.out.c 1 rfl
  have xz2 : (w.alloc (.cells #[.int .i64 0, .int .i64 0, .int .i64 0, .int .i64 0, .int .i64 0, .slice none 0 0] 27)).cell? ⟨(w.heap.size), 2, none⟩ = some (.int .i64 0) := H4.out.c 2 rfl
  have xz3 : (w.alloc (.cells #[.int .i64 0, .int .i64 0, .int .i64 0, .int .i64 0, .int .i64 0, .slice none 0 0] 27)).cell? ⟨(w.heap.size), 3, none⟩ = some (.int .i64 0) := H4.out.c 3 rfl
  have xz4 : (w.alloc (.cells #[.int .i64 0, .int .i64 0, .int .i64 0, .int .i64 0, .int .i64 0, .slice none 0 0] 27)).cell? ⟨(w.heap.size), 4, none⟩ = some (.int .i64 0) := H4.out.c 4 rfl
  have xz5 : (w.alloc (.cells #[.int .i64 0, .int .i64 0, .int .i64 0, .int .i64 0, .int .i64 0, .slice none 0 0] 27)).cell? ⟨(w.heap.size), 5, none⟩ = some (.slice none 0 0) := H4.out.c 5 rfl
  have zz : (w.heap.size) < (w.alloc (.cells #[.int .i64 0, .int .i64 0, .int .i64 0, .int .i64 0, .int .i64 0, .slice none 0 0] 27)).heap.size := H4.out.2.2
  go_wp2_with fail
  clear xz0 xz1 xz2 xz3 xz4 xz5 zz
  have HZ1 := Lib.hid (H4.out.2.2)
  refine (split_own key ver s va vc D _ H2.out (by have := hm.out; omega) hcp.out hE.out hM.out hl.out).mono ?_
  rintro e u1 ⟨pv, rfl, hu, hl64, b1⟩
  have H5 := Lib.hid (H2.out.step b1)
  clear H2
  have H6 := Lib.hid (H4.out.step b1)
  clear H4
  have H7 := Lib.hid (keep2 b1 H3.out)
  clear H3
  clear b1
  have HLN := hln
  replace hl64 := Lib.hid hl64
  obtain ⟨ua, uc, rfl⟩ : ∃ (a : Option Addr) (c : Nat), pv = .slice a n c := by
    obtain ⟨a, c, -, e, -⟩ := hu.row
    rw [HLN.out] at e
    exact ⟨a, c, e⟩
  have H8 := Lib.hid (hu)
  clear hu
  have H9 := Lib.hid (H5.out.step (al u1 (.cells #[.int .i64 M.v, .int .i64 M.c, .int .i64 M.s, .int .i64 M.r, .int .i64 M.t] 24)))
  clear H5
  have H10 := Lib.hid (H6.out.step (al u1 (.cells #[.int .i64 M.v, .int .i64 M.c, .int .i64 M.s, .int .i64 M.r, .int .i64 M.t] 24)))
  clear H6
  have H11 := Lib.hid (H8.out.step (al u1 (.cells #[.int .i64 M.v, .int .i64 M.c, .int .i64 M.s, .int .i64 M.r, .int .i64 M.t] 24)))
  clear H8
  have H12 := Lib.hid (keep2 (al u1 (.cells #[.int .i64 M.v, .int .i64 M.c, .int .i64 M.s, .int .i64 M.r, .int .i64 M.t] 24)) H7.out)
  clear H7
  have H13 := Lib.hid (Cs.new u1 (u1.heap.size) #[.int .i64 M.v, .int .i64 M.c, .int .i64 M.s, .int .i64 M.r, .int .i64 M.t] 24 (by simp))
  have xz0 : (u1.alloc (.cells #[.int .i64 M.v, .int .i64 M.c, .int .i64 M.s, .int .i64 M.r, .int .i64 M.t] 24)).cell? ⟨(w.heap.size), 0, none⟩ = some (.int .i64 0) := H10.out.c 0 rfl
  have xz1 : (u1.alloc (.cells #[.int .i64 M.v, .int .i64 M.c, .int .i64 M.s, .int .i64 M.r, .int .i64 M.t] 24)).cell? ⟨(w.heap.size), 1, none⟩ = some (.int .i64 0) := H10.out.c 1 rfl
  have xz2 : (u1.alloc (.cells #[.int .i64 M.v, .int .i64 M.c, .int .i64 M.s, .int .i64 M.r, .int .i64 M.t] 24)).cell? ⟨(w.heap.size), 2, none⟩ = some (.int .i64 0) := H10.out.c 2 rfl
  have xz3 : (u1.alloc (.cells #[.int .i64 M.v, .int .i64 M.c, .int .i64 M.s, .int .i64 M.r, .int .i64 M.t] 24)).cell? ⟨(w.heap.size), 3, none⟩ = some (.int .i64 0) := H10.out.c 3 rfl
  have xz4 : (u1.alloc (.cells #[.int .i64 M.v, .int .i64 M.c, .int .i64 M.s, .int .i64 M.r, .int .i64 M.t] 24)).cell? ⟨(w.heap.size), 4, none⟩ = some (.int .i64 0) := H10.out.c 4 rfl
  have xz5 : (u1.alloc (.cells #[.int .i64 M.v, .int .i64 M.c, .int .i64 M.s, .int .i64 M.r, .int .i64 M.t] 24)).cell? ⟨(w.heap.size), 5, none⟩ = some (.slice none 0 0) := H10.out.c 5 rfl
  have zz : (w.heap.size) < (u1.alloc (.cells #[.int .i64 M.v, .int .i64 M.c, .int .i64 M.s, .int .i64 M.r, .int .i64 M.t] 24)).heap.size := H10.out.2.2
  have xm0 : (u1.alloc (.cells #[.int .i64 M.v, .int .i64 M.c, .int .i64 M.s, .int .i64 M.r, .int .i64 M.t] 24)).cell? ⟨(u1.heap.size), 0, none⟩ = some (.int .i64 M.v) := H13.out.c 0 rfl
  have xm1 : (u1.alloc (.cells #[.int .i64 M.v, .int .i64 M.c, .int .i64 M.s, .int .i64 M.r, .int .i64 M.t] 24)).cell? ⟨(u1.heap.size), 1, none⟩ = some (.int .i64 M.c) := H13.out.c 1 rfl
  have xm2 : (u1.alloc (.cells #[.int .i64 M.v, .int .i64 M.c, .int .i64 M.s, .int .i64 M.r, .int .i64 M.t] 24)).cell? ⟨(u1.heap.size), 2, none⟩ = some (.int .i64 M.s) := H13.out.c 2 rfl
  have xm3 : (u1.alloc (.cells #[.int .i64 M.v, .int .i64 M.c, .int .i64 M.s, .int .i64 M.r, .int .i64 M.t] 24)).cell? ⟨(u1.heap.size), 3, none⟩ = some (.int .i64 M.r) := H13.out.c 3 rfl
  have xm4 : (u1.alloc (.cells #[.int .i64 M.v, .int .i64 M.c, .int .i64 M.s, .int .i64 M.r, .int .i64 M.t] 24)).cell? ⟨(u1.heap.size), 4, none⟩ = some (.int .i64 M.t) := H13.out.c 4 rfl
  have zm : (u1.heap.size) < (u1.alloc (.cells #[.int .i64 M.v, .int .i64 M.c, .int .i64 M.s, .int .i64 M.r, .int .i64 M.t] 24)).heap.size := H13.out.2.2
  have HVV := Lib.hid (inB_iff.1 (spE_ok hE.out).2.1)
  have q1 : wrap64 (ver - 1) = ver - 1 := IntWalk.wrap64_in _ (by have := HVV.out; omega)
  go_wp2_with fail
  have HBE := Lib.hid (show bgE key (ver - 1) M = 0 by
    have := HVV.out
    rw [← hM.out, bg_spM hE.out, if_neg (by rw [inB_iff.2 ⟨by omega, by omega⟩]; decide), if_neg (by omega)])
  clear q1
  have HZ2 := Lib.hid (H10.out.2.2)
  refine (begin_own key (ver - 1) M HBE.out (M' := M) (if_pos rfl) (L' := List.replicate n []) ((if_pos rfl).trans (by rw [← hM.out, spM_eq, ← HLN.out, ← hl.out, spL_lenT]; simp)) _).mono ?_
  rintro e u2 ⟨sv, rfl, hu2, b2⟩
  clear xz0 xz1 xz2 xz3 xz4 xz5 zz xm0 xm1 xm2 xm3 xm4 zm
  have H14 := Lib.hid (H9.out.step b2)
  clear H9
  have H15 := Lib.hid (H10.out.step b2)
  clear H10
  have H16 := Lib.hid (H11.out.step b2)
  clear H11
  have H17 := Lib.hid (H13.out.step b2)
  clear H13
  have H18 := Lib.hid (keep2 b2 H12.out)
  clear H12
  clear b2
  obtain ⟨uba, ubc, rfl, -⟩ : ∃ (a : Option Addr) (c : Nat), sv = .slice a n c ∧ True := by
    obtain ⟨a, c, e, -⟩ := hu2.1
    rw [List.length_replicate] at e
    exact ⟨a, c, e, trivial⟩
  have H19 := Lib.hid (hu2)
  clear hu2
  have HZ3 := Lib.hid (H15.out.2.2)
  have H20 := Lib.hid (H14.out.step (al u2 (.cells #[.int .i64 M.v, .int .i64 M.c, .int .i64 M.s, .int .i64 M.r, .int .i64 M.t, .slice uba n ubc] 27)))
  clear H14
  have H21 := Lib.hid (H15.out.step (al u2 (.cells #[.int .i64 M.v, .int .i64 M.c, .int .i64 M.s, .int .i64 M.r, .int .i64 M.t, .slice uba n ubc] 27)))
  clear H15
  have H22 := Lib.hid (H16.out.step (al u2 (.cells #[.int .i64 M.v, .int .i64 M.c, .int .i64 M.s, .int .i64 M.r, .int .i64 M.t, .slice uba n ubc] 27)))
  clear H16
  have H23 := Lib.hid (H17.out.step (al u2 (.cells #[.int .i64 M.v, .int .i64 M.c, .int .i64 M.s, .int .i64 M.r, .int .i64 M.t, .slice uba n ubc] 27)))
  clear H17
  have H24 := Lib.hid (H19.out.step (al u2 (.cells #[.int .i64 M.v, .int .i64 M.c, .int .i64 M.s, .int .i64 M.r, .int .i64 M.t, .slice uba n ubc] 27)))
  clear H19
  have H25 := Lib.hid (keep2 (al u2 (.cells #[.int .i64 M.v, .int .i64 M.c, .int .i64 M.s, .int .i64 M.r, .int .i64 M.t, .slice uba n ubc] 27)) H18.out)
  clear H18
  have H26 := Lib.hid (Cs.new u2 (u2.heap.size) #[.int .i64 M.v, .int .i64 M.c, .int .i64 M.s, .int .i64 M.r, .int .i64 M.t, .slice uba n ubc] 27 (by simp))
  have xz0 : (u2.alloc (.cells #[.int .i64 M.v, .int .i64 M.c, .int .i64 M.s, .int .i64 M.r, .int .i64 M.t, .slice uba n ubc] 27)).cell? ⟨(w.heap.size), 0, none⟩ = some (.int .i64 0) := H21.out.c 0 rfl
  have xz1 : (u2.alloc (.cells #[.int .i64 M.v, .int .i64 M.c, .int .i64 M.s, .int .i64 M.r, .int .i64 M.t, .slice uba n ubc] 27)).cell? ⟨(w.heap.size), 1, none⟩ = some (.int .i64 0) := H21.out.c 1 rfl
  have xz2 : (u2.alloc (.cells #[.int .i64 M.v, .int .i64 M.c, .int .i64 M.s, .int .i64 M.r, .int .i64 M.t, .slice uba n ubc] 27)).cell? ⟨(w.heap.size), 2, none⟩ = some (.int .i64 0) := H21.out.c 2 rfl
  have xz3 : (u2.alloc (.cells #[.int .i64 M.v, .int .i64 M.c, .int .i64 M.s, .int .i64 M.r, .int .i64 M.t, .slice uba n ubc] 27)).cell? ⟨(w.heap.size), 3, none⟩ = some (.int .i64 0) := H21.out.c 3 rfl
  have xz4 : (u2.alloc (.cells #[.int .i64 M.v, .int .i64 M.c, .int .i64 M.s, .int .i64 M.r, .int .i64 M.t, .slice uba n ubc] 27)).cell? ⟨(w.heap.size), 4, none⟩ = some (.int .i64 0) := H21.out.c 4 rfl
  have xz5 : (u2.alloc (.cells #[.int .i64 M.v, .int .i64 M.c, .int .i64 M.s, .int .i64 M.r, .int .i64 M.t, .slice uba n ubc] 27)).cell? ⟨(w.heap.size), 5, none⟩ = some (.slice none 0 0) := H21.out.c 5 rfl
  have zz : (w.heap.size) < (u2.alloc (.cells #[.int .i64 M.v, .int .i64 M.c, .int .i64 M.s, .int .i64 M.r, .int .i64 M.t, .slice uba n ubc] 27)).heap.size := H21.out.2.2
  have xt0 : (u2.alloc (.cells #[.int .i64 M.v, .int .i64 M.c, .int .i64 M.s, .int .i64 M.r, .int .i64 M.t, .slice uba n ubc] 27)).cell? ⟨(u2.heap.size), 0, none⟩ = some (.int .i64 M.v) := H26.out.c 0 rfl
  have xt1 : (u2.alloc (.cells #[.int .i64 M.v, .int .i64 M.c, .int .i64 M.s, .int .i64 M.r, .int .i64 M.t, .slice uba n ubc] 27)).cell? ⟨(u2.heap.size), 1, none⟩ = some (.int .i64 M.c) := H26.out.c 1 rfl
  have xt2 : (u2.alloc (.cells #[.int .i64 M.v, .int .i64 M.c, .int .i64 M.s, .int .i64 M.r, .int .i64 M.t, .slice uba n ubc] 27)).cell? ⟨(u2.heap.size), 2, none⟩ = some (.int .i64 M.s) := H26.out.c 2 rfl
  have xt3 : (u2.alloc (.cells #[.int .i64 M.v, .int .i64 M.c, .int .i64 M.s, .int .i64 M.r, .int .i64 M.t, .slice uba n ubc] 27)).cell? ⟨(u2.heap.size), 3, none⟩ = some (.int .i64 M.r) := H26.out.c 3 rfl
  have xt4 : (u2.alloc (.cells #[.int .i64 M.v, .int .i64 M.c, .int .i64 M.s, .int .i64 M.r, .int .i64 M.t, .slice uba n ubc] 27)).cell? ⟨(u2.heap.size), 4, none⟩ = some (.int .i64 M.t) := H26.out.c 4 rfl
  have xt5 : (u2.alloc (.cells #[.int .i64 M.v, .int .i64 M.c, .int .i64 M.s, .int .i64 M.r, .int .i64 M.t, .slice uba n ubc] 27)).cell? ⟨(u2.heap.size), 5, none⟩ = some (.slice uba n ubc) := H26.out.c 5 rfl
  have zt : (u2.heap.size) < (u2.alloc (.cells #[.int .i64 M.v, .int .i64 M.c, .int .i64 M.s, .int .i64 M.r, .int .i64 M.t, .slice uba n ubc] 27)).heap.size := H26.out.2.2
  have HNP := Lib.hid (show 0 < n by
    have h1 := spE_ok hE.out
    have h2 := inB_iff.1 h1.2.2.1
    have := chN_pos (n := D.length) (s := s.toNat) (by omega) (len_pos h1.2.2.2.1)
    rw [← HLN.out, ← hl.out, spL_lenT]; omega)
  go_upto_region 3 with fail
  clear xz0 xz1 xz2 xz3 xz4 xz5 zz xt0 xt1 xt2 xt3 xt4 xt5 zt
  clear H23
  obtain ⟨U3, hU3⟩ : ∃ z9, (u2.alloc (.cells #[.int .i64 M.v, .int .i64 M.c, .int .i64 M.s, .int .i64 M.r, .int .i64 M.t, .slice uba n ubc] 27)) = z9 := ⟨_, rfl⟩
  rw [hU3] at H20 H21 H22 H24 H26 H25 ⊢
  clear hU3
  have HTZ := Lib.hid (show (u2.heap.size) ≠ (w.heap.size) by have := HZ3.out; omega)
  obtain ⟨lit, hlit⟩ : ∃ lit : (Nat → Value) → Act, lit = fun vs => { tmps := List.toArray (Value.int IntKind.i64 key :: Value.int IntKind.i64 ver :: Value.int IntKind.i64 s :: Value.slice va D.length vc :: undef :: undef :: undef :: undef :: Value.pointer (some { block := w.heap.size, off := 0 }) :: vs 22 :: vs 23 :: Value.pointer (some { block := u1.heap.size, off := 0 }) :: Value.slice ua n uc :: Value.int IntKind.i64 0 :: Value.pointer (some { block := u2.heap.size, off := 0 }) :: Value.int IntKind.i64 0 :: Value.tuple #[Value.agg #[Value.int IntKind.i64 M.v, Value.int IntKind.i64 M.c, Value.int IntKind.i64 M.s, Value.int IntKind.i64 M.r, Value.int IntKind.i64 M.t], Value.slice ua n uc, Value.int IntKind.i64 0] :: Value.int IntKind.i64 key :: Value.int IntKind.i64 ver :: Value.int IntKind.i64 s :: Value.slice va D.length vc :: Value.tuple #[Value.agg #[Value.int IntKind.i64 M.v, Value.int IntKind.i64 M.c, Value.int IntKind.i64 M.s, Value.int IntKind.i64 M.r, Value.int IntKind.i64 M.t], Value.slice ua n uc, Value.int IntKind.i64 0] :: Value.agg #[Value.int IntKind.i64 M.v, Value.int IntKind.i64 M.c, Value.int IntKind.i64 M.s, Value.int IntKind.i64 M.r, Value.int IntKind.i64 M.t] :: Value.slice ua n uc :: Value.int IntKind.i64 0 :: Value.tuple #[Value.agg #[Value.int IntKind.i64 M.v, Value.int IntKind.i64 M.c, Value.int IntKind.i64 M.s, Value.int IntKind.i64 M.r, Value.int IntKind.i64 M.t, Value.slice uba n ubc], Value.int IntKind.i64 0] :: Value.int IntKind.i64 key :: Value.int IntKind.i64 ver :: Value.int IntKind.i64 (wrap64 (ver - 1)) :: Value.agg #[Value.int IntKind.i64 M.v, Value.int IntKind.i64 M.c, Value.int IntKind.i64 M.s, Value.int IntKind.i64 M.r, Value.int IntKind.i64 M.t] :: Value.tuple #[Value.agg #[Value.int IntKind.i64 M.v, Value.int IntKind.i64 M.c, Value.int IntKind.i64 M.s, Value.int IntKind.i64 M.r, Value.int IntKind.i64 M.t, Value.slice uba n ubc], Value.int IntKind.i64 0] :: Value.agg #[Value.int IntKind.i64 M.v, Value.int IntKind.i64 M.c, Value.int IntKind.i64 M.s, Value.int IntKind.i64 M.r, Value.int IntKind.i64 M.t, Value.slice uba n ubc] :: Value.int IntKind.i64 0 :: vs 0 :: vs 1 :: vs 2 :: vs 3 :: vs 4 :: vs 5 :: vs 6 :: vs 7 :: vs 8 :: vs 9 :: vs 10 :: vs 11 :: vs 12 :: vs 13 :: vs 14 :: vs 15 :: vs 16 :: vs 17 :: vs 18 :: vs 19 :: vs 20 :: []), defers := [] } := ⟨_, rfl⟩
  have HLIT := Lib.hid hlit
  clear hlit
  obtain ⟨val, hval⟩ : ∃ val : List Value, val = [.agg #[.int .i64 M.v, .int .i64 M.c, .int .i64 M.s, .int .i64 M.r, .int .i64 M.t, .slice uba n ubc], .slice ua n uc, .int .i64 0, .bool true, .bool true, .int .i64 0, .bool true, .bool true, .bool true, .slice ua n uc, .int .i64 (n : Int), .bool true, .bool true, .bool true, .pointer (some ⟨(u2.heap.size), 5, none⟩), .slice uba n ubc, .int .i64 (n : Int), .slice ua n uc, .int .i64 (n : Int), .bool true, .bool true, undef, .slice ua n uc, .bool true] := ⟨_, rfl⟩
  have E0 := Lib.hid (show val.getD 0 undef = .agg #[.int .i64 M.v, .int .i64 M.c, .int .i64 M.s, .int .i64 M.r, .int .i64 M.t, .slice uba n ubc] by rw [hval]; rfl)
  have E1 := Lib.hid (show val.getD 1 undef = .slice ua n uc by rw [hval]; rfl)
  have E2 := Lib.hid (show val.getD 2 undef = .int .i64 0 by rw [hval]; rfl)
  have E3 := Lib.hid (show val.getD 3 undef = .bool true by rw [hval]; rfl)
  have E4 := Lib.hid (show val.getD 4 undef = .bool true by rw [hval]; rfl)
  have E5 := Lib.hid (show val.getD 5 undef = .int .i64 0 by rw [hval]; rfl)
  have E6 := Lib.hid (show val.getD 6 undef = .bool true by rw [hval]; rfl)
  have E7 := Lib.hid (show val.getD 7 undef = .bool true by rw [hval]; rfl)
  have E8 := Lib.hid (show val.getD 8 undef = .bool true by rw [hval]; rfl)
  have E9 := Lib.hid (show val.getD 9 undef = .slice ua n uc by rw [hval]; rfl)
  have E10 := Lib.hid (show val.getD 10 undef = .int .i64 (n : Int) by rw [hval]; rfl)
  have E11 := Lib.hid (show val.getD 11 undef = .bool true by rw [hval]; rfl)
  have E12 := Lib.hid (show val.getD 12 undef = .bool true by rw [hval]; rfl)
  have E13 := Lib.hid (show val.getD 13 undef = .bool true by rw [hval]; rfl)
  have E14 := Lib.hid (show val.getD 14 undef = .pointer (some ⟨(u2.heap.size), 5, none⟩) by rw [hval]; rfl)
  have E15 := Lib.hid (show val.getD 15 undef = .slice uba n ubc by rw [hval]; rfl)
  have E16 := Lib.hid (show val.getD 16 undef = .int .i64 (n : Int) by rw [hval]; rfl)
  have E17 := Lib.hid (show val.getD 17 undef = .slice ua n uc by rw [hval]; rfl)
  have E18 := Lib.hid (show val.getD 18 undef = .int .i64 (n : Int) by rw [hval]; rfl)
  have E19 := Lib.hid (show val.getD 19 undef = .bool true by rw [hval]; rfl)
  have E20 := Lib.hid (show val.getD 20 undef = .bool true by rw [hval]; rfl)
  have E22 := Lib.hid (show val.getD 22 undef = .slice ua n uc by rw [hval]; rfl)
  have E23 := Lib.hid (show val.getD 23 undef = .bool true by rw [hval]; rfl)
  clear hval
  obtain ⟨G, hG0⟩ : ∃ G : Bool → Nat → Value → World → Prop, G = (fun bq iq vq ww => (iq ≠ 21 → vq = val.getD iq undef)) := ⟨_, rfl⟩
  have HG := Lib.hid hG0
  clear hG0
  refine region_inv (NS lit 21 (fun p q => (p == 21 && q == 0)) G fun bq wv => (bq = false → Below U3.heap.size U3 wv) ∧ (bq = true → Cs wv (w.heap.size) #[.int .i64 M.v, .int .i64 M.c, .int .i64 M.s, .int .i64 M.r, .int .i64 M.t, .slice uba n ubc] ∧ Cs wv (u2.heap.size) #[.int .i64 M.v, .int .i64 M.c, .int .i64 M.s, .int .i64 M.r, .int .i64 M.t, .slice uba n ubc] ∧ PcsR (w.alloc (.cells #[.int .i64 0, .int .i64 0, .int .i64 0, .int .i64 0, .int .i64 0, .slice none 0 0] 27)).heap.size l (.slice ua n uc) wv ∧ NlR (u1.alloc (.cells #[.int .i64 M.v, .int .i64 M.c, .int .i64 M.s, .int .i64 M.r, .int .i64 M.t] 24)).heap.size (List.replicate n []) (.slice uba n ubc) wv ∧ Below w.heap.size w wv)) (by kernel_rfl) (by decide +kernel) ?_ ?_ ?_
  · exact NS.start (fun i => ([undef, undef, undef, undef, undef, undef, undef, undef, undef, undef, undef, undef, undef, undef, undef, undef, undef, undef, undef, undef, undef, undef, Value.slice none 0 0, Value.bool false] : List Value).getD i undef) (by rw [HLIT.out]; rfl) ⟨fun _ => below_drew _ _, fun h => (by cases h)⟩
  · refine ⟨?_, ?_, ?_, ?_, ?_, ?_, ?_, ?_, ?_, ?_, ?_, ?_, ?_, ?_, ?_, ?_, ?_, ?_, ?_, ?_, ?_, ?_, ?_, ?_, trivial⟩
    · intro bf ac wv hfb haf hJ K' hK
      obtain ⟨vs, rfl, ja, hB, j4⟩ := hJ
      replace hK := Lib.hid hK
      rw [HG.out] at j4
      replace j4 := Lib.hid (And.intro ja j4)
      replace hB := Lib.hid hB
      clear ja haf
      have hC5 : Cs wv (u2.heap.size) #[.int .i64 M.v, .int .i64 M.c, .int .i64 M.s, .int .i64 M.r, .int .i64 M.t, .slice uba n ubc] := by
        cases hq : bf 21
        · exact H26.out.step (hB.out.1 hq)
        · exact (hB.out.2 hq).2.1
      have x0 := hC5.c 0 rfl
      have x1 := hC5.c 1 rfl
      have x2 := hC5.c 2 rfl
      have x3 := hC5.c 3 rfl
      have x4 := hC5.c 4 rfl
      have x5 := hC5.c 5 rfl
      have xz := hC5.2.2
      clear hC5
      rw [HLIT.out]
      go_simp
      exact hK.out _ _ (NS.next (wv := wv) (vs := vs) 0 (by omega) (fun q h => absurd h (by simp)) (x := .agg #[.int .i64 M.v, .int .i64 M.c, .int .i64 M.s, .int .i64 M.r, .int .i64 M.t, .slice uba n ubc]) (by rw [HLIT.out]; rfl) (by rw [HG.out]; exact j4.out) hB.out (by rw [HG.out]; exact fun _ _ h => h) (by rw [HG.out]; exact fun _ => E0.out.symm))
    · intro bf ac wv hfb haf hJ K' hK
      obtain ⟨vs, rfl, ja, hB, j4⟩ := hJ
      replace hK := Lib.hid hK
      rw [HG.out] at j4
      replace j4 := Lib.hid (And.intro ja j4)
      replace hB := Lib.hid hB
      clear ja haf
      rw [HLIT.out]
      go_simp
      exact hK.out _ _ (NS.next (wv := wv) (vs := vs) 1 (by omega) (fun q h => absurd h (by simp)) (x := .slice ua n uc) (by rw [HLIT.out]; rfl) (by rw [HG.out]; exact j4.out) hB.out (by rw [HG.out]; exact fun _ _ h => h) (by rw [HG.out]; exact fun _ => E1.out.symm))
    · intro bf ac wv hfb haf hJ K' hK
      obtain ⟨vs, rfl, ja, hB, j4⟩ := hJ
      replace hK := Lib.hid hK
      rw [HG.out] at j4
      replace j4 := Lib.hid (And.intro ja j4)
      replace hB := Lib.hid hB
      clear ja haf
      rw [HLIT.out]
      go_simp
      exact hK.out _ _ (NS.next (wv := wv) (vs := vs) 2 (by omega) (fun q h => absurd h (by simp)) (x := .int .i64 0) (by rw [HLIT.out]; rfl) (by rw [HG.out]; exact j4.out) hB.out (by rw [HG.out]; exact fun _ _ h => h) (by rw [HG.out]; exact fun _ => E2.out.symm))
    · intro bf ac wv hfb haf hJ K' hK
      obtain ⟨vs, rfl, ja, hB, j4⟩ := hJ
      replace hK := Lib.hid hK
      simp [Region.binds] at haf
      rw [HG.out] at j4
      have e2 := ((j4 2 (by simp [haf])) (by decide)).trans E2.out
      replace j4 := Lib.hid (And.intro ja j4)
      replace hB := Lib.hid hB
      clear ja haf
      rw [HLIT.out]
      go_simp
      exact hK.out _ _ (NS.next (wv := wv) (vs := vs) 3 (by omega) (fun q h => absurd h (by simp)) (x := .bool true) (by rw [HLIT.out]; simp only [upv, e2, Nat.reduceBEq, cond_true, cond_false]) (by rw [HG.out]; exact j4.out) hB.out (by rw [HG.out]; exact fun _ _ h => h) (by rw [HG.out]; exact fun _ => E3.out.symm))
    · intro bf ac wv hfb haf hJ K' hK
      obtain ⟨vs, rfl, ja, hB, j4⟩ := hJ
      replace hK := Lib.hid hK
      simp [Region.binds] at haf
      rw [HG.out] at j4
      have e3 := ((j4 3 (by simp [haf])) (by decide)).trans E3.out
      replace j4 := Lib.hid (And.intro ja j4)
      replace hB := Lib.hid hB
      clear ja haf
      rw [HLIT.out]
      go_simp
      exact hK.out _ _ (NS.next (wv := wv) (vs := vs) 4 (by omega) (fun q h => absurd h (by simp)) (x := .bool true) (by rw [HLIT.out]; simp only [upv, e3, Nat.reduceBEq, cond_true, cond_false]) (by rw [HG.out]; exact j4.out) hB.out (by rw [HG.out]; exact fun _ _ h => h) (by rw [HG.out]; exact fun _ => E4.out.symm))
    · intro bf ac wv hfb haf hJ K' hK
      obtain ⟨vs, rfl, ja, hB, j4⟩ := hJ
      replace hK := Lib.hid hK
      simp [Region.binds] at haf
      rw [HG.out] at j4
      have e4 := ((j4 4 (by simp [haf])) (by decide)).trans E4.out
      replace j4 := Lib.hid (And.intro ja j4)
      replace hB := Lib.hid hB
      clear ja haf
      rw [HLIT.out]
      go_simp
      exact hK.out _ _ (NS.next (wv := wv) (vs := vs) 5 (by omega) (fun q h => absurd h (by simp)) (x := .int .i64 0) (by rw [HLIT.out]; simp only [upv, e4, Nat.reduceBEq, cond_true, cond_false]) (by rw [HG.out]; exact j4.out) hB.out (by rw [HG.out]; exact fun _ _ h => h) (by rw [HG.out]; exact fun _ => E5.out.symm))
    · intro bf ac wv hfb haf hJ K' hK
      obtain ⟨vs, rfl, ja, hB, j4⟩ := hJ
      replace hK := Lib.hid hK
      simp [Region.binds] at haf
      rw [HG.out] at j4
      have e4 := ((j4 4 (by simp [haf])) (by decide)).trans E4.out
      have e5 := ((j4 5 (by simp [haf])) (by decide)).trans E5.out
      replace j4 := Lib.hid (And.intro ja j4)
      replace hB := Lib.hid hB
      clear ja haf
      rw [HLIT.out]
      go_simp
      exact hK.out _ _ (NS.next (wv := wv) (vs := vs) 6 (by omega) (fun q h => absurd h (by simp)) (x := .bool true) (by rw [HLIT.out]; simp only [upv, e4, e5, Nat.reduceBEq, cond_true, cond_false]) (by rw [HG.out]; exact j4.out) hB.out (by rw [HG.out]; exact fun _ _ h => h) (by rw [HG.out]; exact fun _ => E6.out.symm))
    · intro bf ac wv hfb haf hJ K' hK
      obtain ⟨vs, rfl, ja, hB, j4⟩ := hJ
      replace hK := Lib.hid hK
      simp [Region.binds] at haf
      rw [HG.out] at j4
      have e4 := ((j4 4 (by simp [haf])) (by decide)).trans E4.out
      have e6 := ((j4 6 (by simp [haf])) (by decide)).trans E6.out
      replace j4 := Lib.hid (And.intro ja j4)
      replace hB := Lib.hid hB
      clear ja haf
      rw [HLIT.out]
      go_simp
      exact hK.out _ _ (NS.next (wv := wv) (vs := vs) 7 (by omega) (fun q h => absurd h (by simp)) (x := .bool true) (by rw [HLIT.out]; simp only [upv, e4, e6, Nat.reduceBEq, cond_true, cond_false]) (by rw [HG.out]; exact j4.out) hB.out (by rw [HG.out]; exact fun _ _ h => h) (by rw [HG.out]; exact fun _ => E7.out.symm))
    · intro bf ac wv hfb haf hJ K' hK
      obtain ⟨vs, rfl, ja, hB, j4⟩ := hJ
      replace hK := Lib.hid hK
      simp [Region.binds] at haf
      rw [HG.out] at j4
      have e7 := ((j4 7 (by simp [haf])) (by decide)).trans E7.out
      replace j4 := Lib.hid (And.intro ja j4)
      replace hB := Lib.hid hB
      clear ja haf
      rw [HLIT.out]
      go_simp
      exact hK.out _ _ (NS.next (wv := wv) (vs := vs) 8 (by omega) (fun q h => absurd h (by simp)) (x := .bool true) (by rw [HLIT.out]; simp only [upv, e7, Nat.reduceBEq, cond_true, cond_false]) (by rw [HG.out]; exact j4.out) hB.out (by rw [HG.out]; exact fun _ _ h => h) (by rw [HG.out]; exact fun _ => E8.out.symm))
    · intro bf ac wv hfb haf hJ K' hK
      obtain ⟨vs, rfl, ja, hB, j4⟩ := hJ
      replace hK := Lib.hid hK
      simp [Region.binds] at haf
      rw [HG.out] at j4
      have e8 := ((j4 8 (by simp [haf])) (by decide)).trans E8.out
      replace j4 := Lib.hid (And.intro ja j4)
      replace hB := Lib.hid hB
      clear ja haf
      rw [HLIT.out]
      go_simp
      exact hK.out _ _ (NS.next (wv := wv) (vs := vs) 9 (by omega) (fun q h => absurd h (by simp)) (x := .slice ua n uc) (by rw [HLIT.out]; simp only [upv, e8, Nat.reduceBEq, cond_true, cond_false]) (by rw [HG.out]; exact j4.out) hB.out (by rw [HG.out]; exact fun _ _ h => h) (by rw [HG.out]; exact fun _ => E9.out.symm))
    · intro bf ac wv hfb haf hJ K' hK
      obtain ⟨vs, rfl, ja, hB, j4⟩ := hJ
      replace hK := Lib.hid hK
      simp [Region.binds] at haf
      rw [HG.out] at j4
      have e8 := ((j4 8 (by simp [haf])) (by decide)).trans E8.out
      have e9 := ((j4 9 (by simp [haf])) (by decide)).trans E9.out
      replace j4 := Lib.hid (And.intro ja j4)
      replace hB := Lib.hid hB
      clear ja haf
      rw [HLIT.out]
      go_simp
      exact hK.out _ _ (NS.next (wv := wv) (vs := vs) 10 (by omega) (fun q h => absurd h (by simp)) (x := .int .i64 (n : Int)) (by rw [HLIT.out]; simp only [upv, e8, e9, Nat.reduceBEq, cond_true, cond_false]) (by rw [HG.out]; exact j4.out) hB.out (by rw [HG.out]; exact fun _ _ h => h) (by rw [HG.out]; exact fun _ => E10.out.symm))
    · intro bf ac wv hfb haf hJ K' hK
      obtain ⟨vs, rfl, ja, hB, j4⟩ := hJ
      replace hK := Lib.hid hK
      simp [Region.binds] at haf
      rw [HG.out] at j4
      have e8 := ((j4 8 (by simp [haf])) (by decide)).trans E8.out
      have e10 := ((j4 10 (by simp [haf])) (by decide)).trans E10.out
      replace j4 := Lib.hid (And.intro ja j4)
      replace hB := Lib.hid hB
      clear ja haf
      have tn : decide ((n : Int) > 0) = true := decide_eq_true (by have := HNP.out; omega)
      have tn2 : decide ((0 : Int) < (n : Int)) = true := tn
      have tn3 : decide (0 < n) = true := decide_eq_true HNP.out
      have tn4 := HNP.out
      rw [HLIT.out]
      go_simp
      exact hK.out _ _ (NS.next (wv := wv) (vs := vs) 11 (by omega) (fun q h => absurd h (by simp)) (x := .bool true) (by rw [HLIT.out]; simp only [upv, e8, e10, Nat.reduceBEq, cond_true, cond_false]) (by rw [HG.out]; exact j4.out) hB.out (by rw [HG.out]; exact fun _ _ h => h) (by rw [HG.out]; exact fun _ => E11.out.symm))
    · intro bf ac wv hfb haf hJ K' hK
      obtain ⟨vs, rfl, ja, hB, j4⟩ := hJ
      replace hK := Lib.hid hK
      simp [Region.binds] at haf
      rw [HG.out] at j4
      have e8 := ((j4 8 (by simp [haf])) (by decide)).trans E8.out
      have e11 := ((j4 11 (by simp [haf])) (by decide)).trans E11.out
      replace j4 := Lib.hid (And.intro ja j4)
      replace hB := Lib.hid hB
      clear ja haf
      rw [HLIT.out]
      go_simp
      exact hK.out _ _ (NS.next (wv := wv) (vs := vs) 12 (by omega) (fun q h => absurd h (by simp)) (x := .bool true) (by rw [HLIT.out]; simp only [upv, e8, e11, Nat.reduceBEq, cond_true, cond_false]) (by rw [HG.out]; exact j4.out) hB.out (by rw [HG.out]; exact fun _ _ h => h) (by rw [HG.out]; exact fun _ => E12.out.symm))
    · intro bf ac wv hfb haf hJ K' hK
      obtain ⟨vs, rfl, ja, hB, j4⟩ := hJ
      replace hK := Lib.hid hK
      simp [Region.binds] at haf
      rw [HG.out] at j4
      have e12 := ((j4 12 (by simp [haf])) (by decide)).trans E12.out
      replace j4 := Lib.hid (And.intro ja j4)
      replace hB := Lib.hid hB
      clear ja haf
      rw [HLIT.out]
      go_simp
      exact hK.out _ _ (NS.next (wv := wv) (vs := vs) 13 (by omega) (fun q h => absurd h (by simp)) (x := .bool true) (by rw [HLIT.out]; simp only [upv, e12, Nat.reduceBEq, cond_true, cond_false]) (by rw [HG.out]; exact j4.out) hB.out (by rw [HG.out]; exact fun _ _ h => h) (by rw [HG.out]; exact fun _ => E13.out.symm))
    · intro bf ac wv hfb haf hJ K' hK
      obtain ⟨vs, rfl, ja, hB, j4⟩ := hJ
      replace hK := Lib.hid hK
      simp [Region.binds] at haf
      rw [HG.out] at j4
      have e13 := ((j4 13 (by simp [haf])) (by decide)).trans E13.out
      replace j4 := Lib.hid (And.intro ja j4)
      replace hB := Lib.hid hB
      clear ja haf
      rw [HLIT.out]
      go_simp
      exact hK.out _ _ (NS.next (wv := wv) (vs := vs) 14 (by omega) (fun q h => absurd h (by simp)) (x := .pointer (some ⟨(u2.heap.size), 5, none⟩)) (by rw [HLIT.out]; simp only [upv, e13, Nat.reduceBEq, cond_true, cond_false]) (by rw [HG.out]; exact j4.out) hB.out (by rw [HG.out]; exact fun _ _ h => h) (by rw [HG.out]; exact fun _ => E14.out.symm))
    · intro bf ac wv hfb haf hJ K' hK
      obtain ⟨vs, rfl, ja, hB, j4⟩ := hJ
      replace hK := Lib.hid hK
      simp [Region.binds] at haf
      rw [HG.out] at j4
      have e13 := ((j4 13 (by simp [haf])) (by decide)).trans E13.out
      have e14 := ((j4 14 (by simp [haf])) (by decide)).trans E14.out
      replace j4 := Lib.hid (And.intro ja j4)
      replace hB := Lib.hid hB
      clear ja haf
      have hC5 : Cs wv (u2.heap.size) #[.int .i64 M.v, .int .i64 M.c, .int .i64 M.s, .int .i64 M.r, .int .i64 M.t, .slice uba n ubc] := by
        cases hq : bf 21
        · exact H26.out.step (hB.out.1 hq)
        · exact (hB.out.2 hq).2.1
      have x5 := hC5.c 5 rfl
      have xz := hC5.2.2
      clear hC5
      rw [HLIT.out]
      go_simp
      exact hK.out _ _ (NS.next (wv := wv) (vs := vs) 15 (by omega) (fun q h => absurd h (by simp)) (x := .slice uba n ubc) (by rw [HLIT.out]; simp only [upv, e13, e14, Nat.reduceBEq, cond_true, cond_false]) (by rw [HG.out]; exact j4.out) hB.out (by rw [HG.out]; exact fun _ _ h => h) (by rw [HG.out]; exact fun _ => E15.out.symm))
    · intro bf ac wv hfb haf hJ K' hK
      obtain ⟨vs, rfl, ja, hB, j4⟩ := hJ
      replace hK := Lib.hid hK
      simp [Region.binds] at haf
      rw [HG.out] at j4
      have e13 := ((j4 13 (by simp [haf])) (by decide)).trans E13.out
      have e15 := ((j4 15 (by simp [haf])) (by decide)).trans E15.out
      replace j4 := Lib.hid (And.intro ja j4)
      replace hB := Lib.hid hB
      clear ja haf
      rw [HLIT.out]
      go_simp
      exact hK.out _ _ (NS.next (wv := wv) (vs := vs) 16 (by omega) (fun q h => absurd h (by simp)) (x := .int .i64 (n : Int)) (by rw [HLIT.out]; simp only [upv, e13, e15, Nat.reduceBEq, cond_true, cond_false]) (by rw [HG.out]; exact j4.out) hB.out (by rw [HG.out]; exact fun _ _ h => h) (by rw [HG.out]; exact fun _ => E16.out.symm))
    · intro bf ac wv hfb haf hJ K' hK
      obtain ⟨vs, rfl, ja, hB, j4⟩ := hJ
      replace hK := Lib.hid hK
      simp [Region.binds] at haf
      rw [HG.out] at j4
      have e13 := ((j4 13 (by simp [haf])) (by decide)).trans E13.out
      replace j4 := Lib.hid (And.intro ja j4)
      replace hB := Lib.hid hB
      clear ja haf
      rw [HLIT.out]
      go_simp
      exact hK.out _ _ (NS.next (wv := wv) (vs := vs) 17 (by omega) (fun q h => absurd h (by simp)) (x := .slice ua n uc) (by rw [HLIT.out]; simp only [upv, e13, Nat.reduceBEq, cond_true, cond_false]) (by rw [HG.out]; exact j4.out) hB.out (by rw [HG.out]; exact fun _ _ h => h) (by rw [HG.out]; exact fun _ => E17.out.symm))
    · intro bf ac wv hfb haf hJ K' hK
      obtain ⟨vs, rfl, ja, hB, j4⟩ := hJ
      replace hK := Lib.hid hK
      simp [Region.binds] at haf
      rw [HG.out] at j4
      have e13 := ((j4 13 (by simp [haf])) (by decide)).trans E13.out
      have e17 := ((j4 17 (by simp [haf])) (by decide)).trans E17.out
      replace j4 := Lib.hid (And.intro ja j4)
      replace hB := Lib.hid hB
      clear ja haf
      rw [HLIT.out]
      go_simp
      exact hK.out _ _ (NS.next (wv := wv) (vs := vs) 18 (by omega) (fun q h => absurd h (by simp)) (x := .int .i64 (n : Int)) (by rw [HLIT.out]; simp only [upv, e13, e17, Nat.reduceBEq, cond_true, cond_false]) (by rw [HG.out]; exact j4.out) hB.out (by rw [HG.out]; exact fun _ _ h => h) (by rw [HG.out]; exact fun _ => E18.out.symm))
    · intro bf ac wv hfb haf hJ K' hK
      obtain ⟨vs, rfl, ja, hB, j4⟩ := hJ
      replace hK := Lib.hid hK
      simp [Region.binds] at haf
      rw [HG.out] at j4
      have e13 := ((j4 13 (by simp [haf])) (by decide)).trans E13.out
      have e16 := ((j4 16 (by simp [haf])) (by decide)).trans E16.out
      have e18 := ((j4 18 (by simp [haf])) (by decide)).trans E18.out
      replace j4 := Lib.hid (And.intro ja j4)
      replace hB := Lib.hid hB
      clear ja haf
      rw [HLIT.out]
      go_simp
      exact hK.out _ _ (NS.next (wv := wv) (vs := vs) 19 (by omega) (fun q h => absurd h (by simp)) (x := .bool true) (by rw [HLIT.out]; simp only [upv, e13, e16, e18, Nat.reduceBEq, cond_true, cond_false]) (by rw [HG.out]; exact j4.out) hB.out (by rw [HG.out]; exact fun _ _ h => h) (by rw [HG.out]; exact fun _ => E19.out.symm))
    · intro bf ac wv hfb haf hJ K' hK
      obtain ⟨vs, rfl, ja, hB, j4⟩ := hJ
      replace hK := Lib.hid hK
      simp [Region.binds] at haf
      rw [HG.out] at j4
      have e13 := ((j4 13 (by simp [haf])) (by decide)).trans E13.out
      have e19 := ((j4 19 (by simp [haf])) (by decide)).trans E19.out
      replace j4 := Lib.hid (And.intro ja j4)
      replace hB := Lib.hid hB
      clear ja haf
      rw [HLIT.out]
      go_simp
      exact hK.out _ _ (NS.next (wv := wv) (vs := vs) 20 (by omega) (fun q h => absurd h (by simp)) (x := .bool true) (by rw [HLIT.out]; simp only [upv, e13, e19, Nat.reduceBEq, cond_true, cond_false]) (by rw [HG.out]; exact j4.out) hB.out (by rw [HG.out]; exact fun _ _ h => h) (by rw [HG.out]; exact fun _ => E20.out.symm))
    · intro bf ac wv hfb haf hJ K' hK
      obtain ⟨vs, rfl, ja, hB, j4⟩ := hJ
      replace hK := Lib.hid hK
      simp [Region.binds] at haf
      rw [HG.out] at j4
      have e0 := ((j4 0 (by simp [haf])) (by decide)).trans E0.out
      rw [hfb] at j4 hB
      have HA := Lib.hid (show ∀ q, (fun p q => (p == 21 && q == 0)) 21 q = true → bf q = true from fun q hi => by
        obtain rfl : q = 0 := by simpa [or_assoc] using hi
        all_goals simp [haf])
      have hM := Lib.hid (hB.1 rfl)
      replace j4 := Lib.hid j4
      have HE := Lib.hid (And.intro ja HA.out)
      clear ja haf hB HA
      have hC := Lib.hid (H21.out.step hM.out)
      have x0 := hC.out.c 0 rfl
      have y0 := hC.out.f 0 (by simp)
      have x1 := hC.out.c 1 rfl
      have y1 := hC.out.f 1 (by simp)
      have x2 := hC.out.c 2 rfl
      have y2 := hC.out.f 2 (by simp)
      have x3 := hC.out.c 3 rfl
      have y3 := hC.out.f 3 (by simp)
      have x4 := hC.out.c 4 rfl
      have y4 := hC.out.f 4 (by simp)
      have x5 := hC.out.c 5 rfl
      have y5 := hC.out.f 5 (by simp)
      have xz := hC.out.2.2
      rw [HLIT.out]
      go_simp
      exact hK.out _ _ (NS.put (vs := vs) (w' := ((((((wv.setCell ⟨(w.heap.size), 0, none⟩ (.int .i64 M.v)).setCell ⟨(w.heap.size), 1, none⟩ (.int .i64 M.c)).setCell ⟨(w.heap.size), 2, none⟩ (.int .i64 M.s)).setCell ⟨(w.heap.size), 3, none⟩ (.int .i64 M.r)).setCell ⟨(w.heap.size), 4, none⟩ (.int .i64 M.t)).setCell ⟨(w.heap.size), 5, none⟩ (.slice uba n ubc))) (by rw [HLIT.out]; simp only [e0]) HE.out ⟨fun e => (by cases e), fun _ => ⟨(Cs.set (Cs.set (Cs.set (Cs.set (Cs.set (Cs.set hC.out 0 (by simp) (.int .i64 M.v) rfl) 1 (by simp) (.int .i64 M.c) rfl) 2 (by simp) (.int .i64 M.s) rfl) 3 (by simp) (.int .i64 M.r) rfl) 4 (by simp) (.int .i64 M.t) rfl) 5 (by simp) (.slice uba n ubc) (vs' := #[.int .i64 M.v, .int .i64 M.c, .int .i64 M.s, .int .i64 M.r, .int .i64 M.t, .slice uba n ubc]) rfl), (Cs.other (Cs.other (Cs.other (Cs.other (Cs.other (Cs.other (H26.out.step hM.out) HTZ.out 0 (.int .i64 M.v)) HTZ.out 1 (.int .i64 M.c)) HTZ.out 2 (.int .i64 M.s)) HTZ.out 3 (.int .i64 M.r)) HTZ.out 4 (.int .i64 M.t)) HTZ.out 5 (.slice uba n ubc)), (PcsR.set (PcsR.set (PcsR.set (PcsR.set (PcsR.set (PcsR.set (H22.out.step hM.out) HZ1.out 0 (.int .i64 M.v)) HZ1.out 1 (.int .i64 M.c)) HZ1.out 2 (.int .i64 M.s)) HZ1.out 3 (.int .i64 M.r)) HZ1.out 4 (.int .i64 M.t)) HZ1.out 5 (.slice uba n ubc)), (NlR.set (NlR.set (NlR.set (NlR.set (NlR.set (NlR.set (H24.out.step hM.out) HZ2.out 0 (.int .i64 M.v)) HZ2.out 1 (.int .i64 M.c)) HZ2.out 2 (.int .i64 M.s)) HZ2.out 3 (.int .i64 M.r)) HZ2.out 4 (.int .i64 M.t)) HZ2.out 5 (.slice uba n ubc)), (((((((keep2 hM.out H25.out).setCell (p := ⟨(w.heap.size), 0, none⟩) (Nat.le_refl _) (.int .i64 M.v)).setCell (p := ⟨(w.heap.size), 1, none⟩) (Nat.le_refl _) (.int .i64 M.c)).setCell (p := ⟨(w.heap.size), 2, none⟩) (Nat.le_refl _) (.int .i64 M.s)).setCell (p := ⟨(w.heap.size), 3, none⟩) (Nat.le_refl _) (.int .i64 M.r)).setCell (p := ⟨(w.heap.size), 4, none⟩) (Nat.le_refl _) (.int .i64 M.t)).setCell (p := ⟨(w.heap.size), 5, none⟩) (Nat.le_refl _) (.slice uba n ubc))⟩⟩ (fun j hj hb => by
        have q := j4.out j hb
        rw [HG.out]
        exact q) (fun v => by rw [HG.out]; exact fun h => absurd rfl h))
    · intro bf ac wv hfb haf hJ K' hK
      obtain ⟨vs, rfl, ja, hB, j4⟩ := hJ
      replace hK := Lib.hid hK
      simp [Region.binds] at haf
      rw [HG.out] at j4
      have e1 := ((j4 1 (by simp [haf])) (by decide)).trans E1.out
      replace j4 := Lib.hid (And.intro ja j4)
      replace hB := Lib.hid hB
      clear ja haf
      rw [HLIT.out]
      go_simp
      exact hK.out _ _ (NS.next (wv := wv) (vs := vs) 22 (by omega) (fun q h => absurd h (by simp)) (x := .slice ua n uc) (by rw [HLIT.out]; simp only [upv, e1, Nat.reduceBEq, cond_true, cond_false]) (by rw [HG.out]; exact j4.out) hB.out (by rw [HG.out]; exact fun _ _ h => h) (by rw [HG.out]; exact fun _ => E22.out.symm))
    · intro bf ac wv hfb haf hJ K' hK
      obtain ⟨vs, rfl, ja, hB, j4⟩ := hJ
      replace hK := Lib.hid hK
      simp [Region.binds] at haf
      rw [HG.out] at j4
      have e20 := ((j4 20 (by simp [haf])) (by decide)).trans E20.out
      replace j4 := Lib.hid (And.intro ja j4)
      replace hB := Lib.hid hB
      clear ja haf
      rw [HLIT.out]
      go_simp
      exact hK.out _ _ (NS.next (wv := wv) (vs := vs) 23 (by omega) (fun q h => absurd h (by simp)) (x := .bool true) (by rw [HLIT.out]; simp only [upv, e20, Nat.reduceBEq, cond_true, cond_false]) (by rw [HG.out]; exact j4.out) hB.out (by rw [HG.out]; exact fun _ _ h => h) (by rw [HG.out]; exact fun _ => E23.out.symm))
  · intro bf ac wv hall hJ
    obtain ⟨vs, rfl, -, hB, j4⟩ := hJ
    rw [HG.out] at j4
    rw [hall 21 (by decide)] at hB j4
    have hM := Lib.hid (hB.2 rfl)
    clear hB
    have e22 := ((j4 22 (hall 22 (by decide))) (by decide)).trans E22.out
    have e23 := ((j4 23 (hall 23 (by decide))) (by decide)).trans E23.out
    obtain ⟨hC, -, hp, hn, hbl⟩ := hM.out
    have HPP := Lib.hid hp
    have HNN := Lib.hid hn
    have HBL := Lib.hid hbl
    have k0 := hC.c 0 rfl
    have k1 := hC.c 1 rfl
    have k2 := hC.c 2 rfl
    have k3 := hC.c 3 rfl
    have k4 := hC.c 4 rfl
    have k5 := hC.c 5 rfl
    clear hM j4 hall hC hp hn hbl
    rw [HLIT.out]
    dsimp only
    rw [e22, e23]
    clear e22 e23
    go_wp2
    exact bodyPost_ret (v := .tuple #[.agg #[.int .i64 M.v, .int .i64 M.c, .int .i64 M.s, .int .i64 M.r, .int .i64 M.t, .slice uba n ubc], .slice ua n uc, .bool true]) (by simp [results, Try.results24, go_sem, k0, k1, k2, k3, k4, k5]) rfl ⟨_, _, rfl, HPP.out.low (by have := HZ1.out; omega), hl64.out, HNN.out.low (by have := HZ2.out; omega), HBL.out⟩
end Go.Proofs.Yteodafhgfcbdpaa
