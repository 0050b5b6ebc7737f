/- Shedding: the reference's order. -/
import Derived.Test.YtpablikcidlkaaaTg
namespace Go.Proofs.Ytpablikcidlkaaa
open Go.RowKit

/-- Those whose priority is above p, and those of p below k, in their order. -/
def OrI (l : List (Int × Int)) (p : Int) (k : Nat) (A : List Nat) : Prop := Srt (pri l) A ∧ ∀ i, i ∈ A ↔ i < l.length ∧ (p < pri l i ∨ pri l i = p ∧ i < k)
theorem ori_start (l : List (Int × Int)) (h : ∀ i, i < l.length → pri l i ≤ 100) : OrI l 100 0 [] := ⟨List.Pairwise.nil, fun i => ⟨(fun h => by cases h), (fun hq => by have := h i hq.1; have := hq.2; omega)⟩⟩
theorem ori_take {l : List (Int × Int)} {p : Int} {k : Nat} {A : List Nat} (h : OrI l p k A) (hk : k < l.length) (hp : pri l k = p) : OrI l p (k + 1) (A ++ [k]) := by
  refine ⟨srt_join h.1 (by simp [Srt]) fun x hx y hy => ?_, fun i => ?_⟩
  · have hy : y = k := by simpa using hy
    subst hy
    have := ((h.2 x).1 hx).2
    unfold bef
    omega
  · rw [List.mem_append, h.2 i, List.mem_singleton]
    constructor
    · rintro (⟨h1, h2⟩ | rfl)
      · exact ⟨h1, by omega⟩
      · exact ⟨hk, by omega⟩
    · rintro ⟨h1, h2⟩
      by_cases e : i = k
      · exact .inr e
      · exact .inl ⟨h1, by omega⟩
theorem ori_pass {l : List (Int × Int)} {p : Int} {k : Nat} {A : List Nat} (h : OrI l p k A) (hp : pri l k ≠ p) : OrI l p (k + 1) A := by
  refine ⟨h.1, fun i => ?_⟩
  rw [h.2 i]
  constructor
  · rintro ⟨h1, h2⟩; exact ⟨h1, by omega⟩
  · rintro ⟨h1, h2⟩
    refine ⟨h1, ?_⟩
    by_cases e : i = k
    · subst e; omega
    · omega
theorem ori_next {l : List (Int × Int)} {p : Int} {A : List Nat} (h : OrI l p l.length A) : OrI l (p - 1) 0 A := by
  refine ⟨h.1, fun i => ?_⟩
  rw [h.2 i]
  constructor
  · rintro ⟨h1, h2⟩; exact ⟨h1, by omega⟩
  · rintro ⟨h1, h2⟩; exact ⟨h1, by omega⟩
theorem ori_end {l : List (Int × Int)} {A : List Nat} (h : OrI l (-1) 0 A) (hp : ∀ i, i < l.length → 0 ≤ pri l i) : A = ordL (pri l) l.length := by
  refine IsST.eq (a := 0) (b := l.length) ⟨?_, h.1⟩ (ord_is _ _)
  refine (List.perm_ext_iff_of_nodup h.1.nodup List.nodup_range').2 fun i => ?_
  rw [h.2 i, List.mem_range'_1]
  constructor
  · rintro ⟨h1, -⟩; omega
  · rintro ⟨-, h2⟩
    have := hp i (by omega)
    exact ⟨by omega, by omega⟩
theorem nodup_len : ∀ (A B : List Nat), A.Nodup → (∀ x ∈ A, x ∈ B) → A.length ≤ B.length
  | [], B, _, _ => by simp
  | x :: A, B, hn, hs => by
    obtain ⟨h1, h2⟩ := List.nodup_cons.1 hn
    have hx : x ∈ B := hs x (by simp)
    have := nodup_len A (B.erase x) h2 fun y hy => (List.mem_erase_of_ne (fun e => h1 (by rw [← e]; exact hy))).2 (hs y (by simp [hy]))
    have hl := List.length_erase_of_mem hx
    have hp : 0 < B.length := List.length_pos_of_mem hx
    simp only [List.length_cons]
    omega
theorem ori_len {l : List (Int × Int)} {p : Int} {k : Nat} {A : List Nat} (h : OrI l p k A) : A.length ≤ l.length := by
  have hs : A ⊆ List.range' 0 l.length := fun i hi => by
    rw [List.mem_range'_1]
    have := ((h.2 i).1 hi).1
    omega
  have := nodup_len A _ h.1.nodup (fun x hx => hs hx)
  rwa [List.length_range'] at this
theorem acB_pri {l : List (Int × Int)} (h : acB l = true) (i : Nat) : 0 ≤ pri l i ∧ pri l i ≤ 100 := by
  unfold acB at h
  simp only [Bool.and_eq_true, decide_eq_true_eq, Bool.not_eq_true'] at h
  unfold pri
  by_cases hi : i < l.length
  · have := (List.any_eq_false.1 h.2) (l.getD i (0, 0)) (by rw [show l.getD i (0, 0) = l[i] by simp [hi]]; exact List.getElem_mem hi)
    simp [bad, wiB] at this
    simp only [List.getD_eq_getElem?_getD]
    omega
  · have : l.getD i (0, 0) = (0, 0) := by simp [List.getD_eq_getElem?_getD]; rw [List.getElem?_eq_none (by omega)]; rfl
    rw [this]; simp
def iVs (A : List Nat) : List Value := A.map fun i => Value.int .i64 ((i : Nat) : Int)
theorem row_start3 (w : World) (base : Nat) (hb : base ≤ w.heap.size) : (w.alloc (.cells #[] 3)).ownsRow base 3 1 (.slice (some ⟨w.heap.size, 0, none⟩) 0 0) 0 [] :=
  ⟨rfl, .inr ⟨w.heap.size, 0, #[], rfl, hb, World.alloc_heap_new w _, by omega, by decide, rfl, rfl⟩⟩
set_option maxRecDepth 100000 in
set_option maxHeartbeats 8000000 in
theorem order_any (v : Value) (l : List (Int × Int)) (w : World) (h : ConsAt w v l) (hac : acB l = true) :
    Calls Try.prog 28 #[v] w fun e w' => ∃ r, e = .returned r ∧ w'.ownsRow w.heap.size 3 1 r l.length (iVs (ordL (pri l) l.length)) ∧ Below w.heap.size w w' := by
  have HL := Lib.hid h
  obtain ⟨va, vc, rfl⟩ : ∃ a c, v = .slice a l.length c := (by obtain ⟨a, c, e, -⟩ := h; exact ⟨a, c, e⟩)
  have HPR := Lib.hid (acB_pri hac)
  have hln := acB_len hac
  obtain ⟨i0, hi, hz0, hz1, hz2⟩ := info_parts info3
  clear h hac
  go_enter Try.func28, Try.ntmps28
  go_wp2_with fail
  go_loopw [3, 4] (fun rv pv wr => ∃ p : Int, -1 ≤ p ∧ p ≤ 100 ∧ pv = .int .i64 p ∧ Hid (∃ A, OrI l p 0 A ∧ wr.ownsRow w.heap.size 3 1 rv A.length (iVs A)) ∧ Hid (Below w.heap.size w wr)) (fun _ pv _ => (intOf pv + 1).toNat)
  case atStart => exact ⟨100, by omega, by omega, rfl, Lib.hid ⟨[], ori_start l (fun i _ => (HPR.out i).2), row_start3 w _ (Nat.le_refl _)⟩, Lib.hid (al w _)⟩
  case round =>
    obtain ⟨p, hp0, hp1, rfl, HA, HW⟩ := hrel
    by_cases hlt : 0 ≤ p
    · obtain ⟨WX, hWX⟩ : ∃ z, z = wr := ⟨_, rfl⟩
      subst hWX
      go_wp2_with fail
      go_loopw [3, 5] (fun rv iv wr => ∃ k : Nat, k ≤ l.length ∧ iv = .int .i64 k ∧ Hid (∃ A, OrI l p k A ∧ wr.ownsRow w.heap.size 3 1 rv A.length (iVs A)) ∧ Hid (Below w.heap.size w wr)) (fun _ iv _ => l.length - (intOf iv).toNat)
      case atStart => exact ⟨0, by omega, rfl, HA, HW⟩
      case round =>
        clear HA HW
        obtain ⟨k, hk, rfl, HA, HW⟩ := hrel
        have hsz := HW.out.size
        by_cases hkl : k < l.length
        · obtain ⟨a2, c2, hva, -, -, hcs⟩ := HL.out.step HW.out
          obtain ⟨rfl, rfl⟩ : va = a2 ∧ vc = c2 := by simpa using hva
          obtain ⟨b, off, rfl, hxx⟩ := hcs (by intro e; rw [e] at hkl; simp at hkl)
          obtain ⟨-, x1⟩ := hxx k _ (win_get (d := (0, 0)) hkl)
          replace x1 : wr.cell? ⟨b, off + k * 2 + 1, none⟩ = some (.int .i64 (pri l k)) := x1
          have z1 : b < wr.heap.size := World.block_lt_of_cell? _ _ x1
          have t1 : (k : Int) < (l.length : Int) := by omega
          obtain ⟨A, hA, hrow⟩ := HA.out
          have hAl := ori_len hA
          have HR := Lib.hid hrow
          clear hcs hxx hva HA hrow
          by_cases hc : pri l k = p
          · have HA2 := Lib.hid (ori_take hA hkl hc)
            have hcb : (pri l k == p) = true := by simpa using hc
            clear hA
            generalize pri l k = q at *
            subst hc
            go_wp2_with (at_builtin; refine wpList_append_own _ rfl _ _ 48 rfl w.heap.size 3 i0 _ 1 8 Try.underlying48 hi hz0 hz1 hz2 rfl (by decide) _ _ _ rfl (HR.out.alloc _) ⟨wr.heap.size, 0, none⟩ 1 1 [.int .i64 _] rfl rfl (cell_one_new _ _ _) (by simp [Value.oneCell']) (by unfold maxLen; omega) (by omega) (by simp; omega) ?_; intro v' w9 hown hgrow _; have HR2 := Lib.hid hown; have HB2 := Lib.hid (below_own (Nat.le_refl _) HW.out HR.out hgrow); clear hown hgrow)
            go_roundw
            case rel => exact ⟨k + 1, hkl, by go_num, Lib.hid ⟨A ++ [k], HA2.out, by rw [List.length_append]; unfold iVs; rw [List.map_append]; exact HR2.out⟩, HB2⟩
            case measure => simp [intOf]; omega
          · have HA2 := Lib.hid (ori_pass hA hc)
            have hcb : (pri l k == p) = false := by simpa using hc
            clear hA
            generalize pri l k = q at *
            go_wp2_with fail
            go_roundw
            case rel => exact ⟨k + 1, hkl, by go_num, Lib.hid ⟨A, HA2.out, HR.out⟩, HW⟩
            case measure => simp [intOf]; omega
        · obtain rfl : k = l.length := by omega
          obtain ⟨A, hA, hrow⟩ := HA.out
          have HA2 := Lib.hid (show ∃ A, OrI l (p - 1) 0 A ∧ wr.ownsRow w.heap.size 3 1 _ A.length (iVs A) from ⟨A, ori_next hA, hrow⟩)
          clear hA hrow HA
          go_wp2_with fail
          go_roundw
          case rel => exact ⟨p - 1, by omega, by omega, rfl, HA2, HW⟩
          case measure => simp [intOf]; omega
    · obtain rfl : p = -1 := by omega
      obtain ⟨A, hA, hrow⟩ := HA.out
      obtain rfl := ori_end hA (fun i _ => (HPR.out i).1)
      have hlen : (ordL (pri l) l.length).length = l.length := by have := (ord_is (pri l) l.length).len; simpa using this
      rw [hlen] at hrow
      have HR := Lib.hid hrow
      clear hA hrow HA
      go_wp2
      go_ret
      exact ⟨_, rfl, HR.out, HW.out⟩
end Go.Proofs.Ytpablikcidlkaaa
