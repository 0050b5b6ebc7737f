/- The contracts of the reference's 'Find', 'Known', 'Few'. -/
import Derived.Test.YtloilkfloidnjaaA
import Derived.WalkSpells
import Derived.WalkLawsBesides
import Derived.Deep.QuietTactic
import Derived.BigQuiet
import Derived.Outline
namespace Go.Proofs.Ytloilkfloidnjaa
open Go.RowKit

theorem ret_int {k : IntKind} {a b : Int} (h : a = b) : Ending.returned (.int k a) = .returned (.int k b) := by rw [h]
theorem ret_bool {a b : Bool} (h : a = b) : Ending.returned (.bool a) = .returned (.bool b) := by rw [h]
/-- Two texts are the same. -/
def sE (a b : ByteArray) : Bool := a.toList == b.toList
theorem sE_iff {a b : ByteArray} : sE a b = true ↔ a = b := by
  unfold sE
  rw [beq_iff_eq, ByteArray.toList_eq, ByteArray.toList_eq]
  exact ⟨Go.WideShapes.bytes_inj, fun h => by rw [h]⟩
/-- The index of the first scene with a name. -/
def fI (L : List Scn) (s : ByteArray) : Option Nat := L.findIdx? fun x => sE x.name s
def fInt : Option Nat → Int
  | some k => k
  | none => -1
theorem fI_some {L : List Scn} {s : ByteArray} {k : Nat} (hk : k < L.length) (h : sE L[k].name s = true) (hn : ∀ j (hj : j < L.length), j < k → sE L[j].name s = false) : fI L s = some k := by
  unfold fI
  rw [List.findIdx?_eq_some_iff_getElem]
  exact ⟨hk, h, fun j hj => by simp [hn j (by omega) hj]⟩
theorem fI_none {L : List Scn} {s : ByteArray} (hn : ∀ j (hj : j < L.length), sE L[j].name s = false) : fI L s = none := by
  unfold fI
  rw [List.findIdx?_eq_none_iff]
  intro x hx
  obtain ⟨j, hj, rfl⟩ := List.getElem_of_mem hx
  exact hn j hj

set_option maxRecDepth 100000 in
set_option maxHeartbeats 1000000 in
theorem find_any (v : Value) (L : List Scn) (s : ByteArray) (w : World) (h : ScnsAt w v L) :
    Calls Try.prog 21 #[v, .string s] w fun e w' => e = .returned (.int .i64 (fInt (fI L s))) ∧ w = w' := by
  obtain ⟨a, cap, rfl, hm, hc⟩ := h
  unfold maxLen at hm
  have HC := Lib.hid hc
  clear hc
  go_enter Try.func21, Try.ntmps21
  go_wp2_with fail
  go_loop [5] (fun i => ∃ k : Nat, k ≤ L.length ∧ i = .int .i64 k ∧ Hid (∀ j (hj : j < L.length), j < k → sE L[j].name s = false)) (fun i => L.length - (intOf i).toNat)
  case atStart => exact ⟨0, by omega, rfl, fun j hj h => absurd h (by omega)⟩
  case round =>
    obtain ⟨k, hk, rfl, HN⟩ := hrel
    by_cases hlt : k < L.length
    · obtain ⟨b, off, rfl, hcs⟩ := HC.out (by intro h; rw [h] at hlt; simp at hlt)
      have hx := (hcs k L[k] (by simp)).1
      clear hcs
      cases ht : sE L[k].name s
      · have HN2 := Lib.hid (show ∀ j (hj : j < L.length), j < k + 1 → sE L[j].name s = false from fun j hj h => by
          by_cases e : j = k
          · subst e; exact ht
          · exact HN.out j hj (by omega))
        unfold sE at ht
        generalize L[k].name = nm at *
        go_wp2
        go_round
        case rel => exact ⟨k + 1, by omega, by go_num, HN2⟩
        case measure => simp [intOf]; omega
      · have HF := Lib.hid (fI_some hlt ht HN.out)
        unfold sE at ht
        go_wp2
        go_ret
        exact ⟨ret_int (by rw [HF.out]; rfl), rfl⟩
    · have HF := Lib.hid (fI_none (L := L) (s := s) fun j hj => HN.out j hj (by omega))
      go_wp2
      go_ret
      exact ⟨ret_int (by rw [HF.out]; rfl), rfl⟩

/-- Whether there is a scene for each name. -/
def kn (L : List Scn) (N : List ByteArray) : Bool := N.all fun s => (fI L s).isSome
theorem kn_false {L : List Scn} {N : List ByteArray} {k : Nat} (hk : k < N.length) (h : fI L N[k] = none) : kn L N = false := by
  unfold kn
  rw [List.all_eq_false]
  exact ⟨N[k], List.getElem_mem hk, by rw [h]; simp⟩
theorem kn_true {L : List Scn} {N : List ByteArray} (h : ∀ j (hj : j < N.length), fI L N[j] ≠ none) : kn L N = true := by
  unfold kn
  rw [List.all_eq_true]
  intro x hx
  obtain ⟨j, hj, rfl⟩ := List.getElem_of_mem hx
  exact Option.isSome_iff_ne_none.2 (h j hj)
theorem fInt_neg (o : Option Nat) : decide (fInt o < 0) = o.isNone := by
  cases o with
  | none => rfl
  | some k =>
    have h : decide ((k : Int) < 0) = false := by rw [decide_eq_false_iff_not]; omega
    exact h
set_option maxRecDepth 100000 in
set_option maxHeartbeats 1000000 in
theorem known_any (v vn : Value) (L : List Scn) (N : List ByteArray) (w : World) (h : ScnsAt w v L) (hn : NamesAt w vn N) :
    Calls Try.prog 20 #[v, vn] w fun e w' => e = .returned (.bool (kn L N)) ∧ w = w' := by
  obtain ⟨a, cap, rfl, hm, hc⟩ := hn
  unfold maxLen at hm
  have HC := Lib.hid hc
  have HL := Lib.hid h
  clear hc h
  go_enter Try.func20, Try.ntmps20
  go_wp2_with fail
  go_loop [5] (fun i => ∃ k : Nat, k ≤ N.length ∧ i = .int .i64 k ∧ Hid (∀ j (hj : j < N.length), j < k → fI L N[j] ≠ none)) (fun i => N.length - (intOf i).toNat)
  case atStart => exact ⟨0, by omega, rfl, fun j hj h => absurd h (by omega)⟩
  case round =>
    obtain ⟨k, hk, rfl, HN⟩ := hrel
    by_cases hlt : k < N.length
    · obtain ⟨b, off, rfl, hcs⟩ := HC.out (by intro h; rw [h] at hlt; simp at hlt)
      have hx := hcs k N[k] (by simp)
      clear hcs
      have ht := fInt_neg (fI L N[k])
      by_cases hf : fI L N[k] = none
      · have HF := Lib.hid (kn_false hlt hf)
        rw [hf] at ht
        have HR := Lib.hid (show fInt (fI L N[k]) = -1 by rw [hf]; rfl)
        clear hf ht
        go_wp2_with (go_at_call 21; go_must (refine (find_any v L N[k] _ HL.out).mono ?_); rintro e w' ⟨rfl, rfl⟩; rw [HR.out])
        go_ret
        exact ⟨ret_bool HF.out.symm, rfl⟩
      · have HN2 := Lib.hid (show ∀ j (hj : j < N.length), j < k + 1 → fI L N[j] ≠ none from fun j hj h => by
          by_cases e : j = k
          · subst e; exact hf
          · exact HN.out j hj (by omega))
        have hs : (fI L N[k]).isNone = false := by rw [Option.isNone_eq_false_iff]; exact Option.isSome_iff_ne_none.2 hf
        rw [hs] at ht
        clear hf hs
        go_wp2_with (go_at_call 21; go_must (refine (find_any v L N[k] _ HL.out).mono ?_); rintro e w' ⟨rfl, rfl⟩)
        go_round
        case rel => exact ⟨k + 1, by omega, by go_num, HN2⟩
        case measure => simp [intOf]; omega
    · have HF := Lib.hid (kn_true (L := L) (N := N) fun j hj => HN.out j hj (by omega))
      go_wp2
      go_ret
      exact ⟨ret_bool HF.out.symm, rfl⟩

/-- Whether there are few scenes, settings and names. -/
def few (L : List Scn) (N : Nat) : Bool := L.all (fun x => decide (x.sets.length ≤ 20)) && (decide (L.length ≤ 12) && decide (N ≤ 20))
theorem few_long {L : List Scn} {N : Nat} {k : Nat} (hk : k < L.length) (h : ¬ L[k].sets.length ≤ 20) : few L N = false := by
  unfold few
  have : L.all (fun x => decide (x.sets.length ≤ 20)) = false := by
    rw [List.all_eq_false]
    exact ⟨L[k], List.getElem_mem hk, by simpa using h⟩
  rw [this]; rfl
theorem few_short {L : List Scn} {N : Nat} (h : ∀ j (hj : j < L.length), L[j].sets.length ≤ 20) : few L N = (decide (L.length ≤ 12) && decide (N ≤ 20)) := by
  unfold few
  have : L.all (fun x => decide (x.sets.length ≤ 20)) = true := by
    rw [List.all_eq_true]
    intro x hx
    obtain ⟨j, hj, rfl⟩ := List.getElem_of_mem hx
    simpa using h j hj
  rw [this]; rfl
set_option maxRecDepth 100000 in
set_option maxHeartbeats 1000000 in
theorem few_any (v : Value) (L : List Scn) (an : Option Addr) (N cn : Nat) (w : World) (h : ScnsAt w v L) (hN : N ≤ maxLen) :
    Calls Try.prog 12 #[v, .slice an N cn] w fun e w' => e = .returned (.bool (few L N)) ∧ w = w' := by
  obtain ⟨a, cap, rfl, hm, hc⟩ := h
  unfold maxLen at hm hN
  have HC := Lib.hid hc
  clear hc
  go_enter Try.func12, Try.ntmps12
  go_wp2_with fail
  go_loop [5] (fun i => ∃ k : Nat, k ≤ L.length ∧ i = .int .i64 k ∧ Hid (∀ j (hj : j < L.length), j < k → L[j].sets.length ≤ 20)) (fun i => L.length - (intOf i).toNat)
  case atStart => exact ⟨0, by omega, rfl, fun j hj h => absurd h (by omega)⟩
  case round =>
    obtain ⟨k, hk, rfl, HS⟩ := hrel
    by_cases hlt : k < L.length
    · obtain ⟨b, off, rfl, hcs⟩ := HC.out (by intro h; rw [h] at hlt; simp at hlt)
      obtain ⟨-, -, sv, hx, sa, sc, rfl, hsm, -⟩ := hcs k L[k] (by simp)
      unfold maxLen at hsm
      clear hcs
      by_cases hs : L[k].sets.length ≤ 20
      · have HN2 := Lib.hid (show ∀ j (hj : j < L.length), j < k + 1 → L[j].sets.length ≤ 20 from fun j hj h => by
          by_cases e : j = k
          · subst e; exact hs
          · exact HS.out j hj (by omega))
        generalize L[k].sets.length = m at *
        go_wp2
        go_round
        case rel => exact ⟨k + 1, by omega, by go_num, HN2⟩
        case measure => simp [intOf]; omega
      · have HF := Lib.hid (few_long (N := N) hlt hs)
        generalize L[k].sets.length = m at *
        go_wp2
        go_ret
        exact ⟨ret_bool HF.out.symm, rfl⟩
    · have HF := Lib.hid (few_short (N := N) fun j hj => HS.out j hj (by omega))
      by_cases h12 : L.length ≤ 12
      · by_cases h20 : N ≤ 20
        · have q1 : decide ((L.length : Int) ≤ 12) = true := by simp; omega
          have q2 : decide ((N : Int) ≤ 20) = true := by simp; omega
          have HG := Lib.hid (HF.out.trans (show _ = true by simp [h12, h20]))
          clear HF
          go_wp2
          go_ret
          exact ⟨ret_bool HG.out.symm, rfl⟩
        · have q1 : decide ((L.length : Int) ≤ 12) = true := by simp; omega
          have q2 : decide ((N : Int) ≤ 20) = false := by simp; omega
          have HG := Lib.hid (HF.out.trans (show _ = false by simp [h20]))
          clear HF
          go_wp2
          go_ret
          exact ⟨ret_bool HG.out.symm, rfl⟩
      · have q1 : decide ((L.length : Int) ≤ 12) = false := by simp; omega
        have HG := Lib.hid (HF.out.trans (show _ = false by simp [h12]))
        clear HF
        go_wp2
        go_ret
        exact ⟨ret_bool HG.out.symm, rfl⟩
end Go.Proofs.Ytloilkfloidnjaa
