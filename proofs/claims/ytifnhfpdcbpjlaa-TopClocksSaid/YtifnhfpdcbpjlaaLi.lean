/- Leases: 'head'. -/
import Derived.Test.YtifnhfpdcbpjlaaLg
namespace Go.Proofs.Ytifnhfpdcbpjlaa
open Go.RowKit

theorem bos_lit (W : World) (l : List Bool) (cs : Array Value) (t : TypeId) (hc : cs.toList = l.map .bool) (hm : l.length ≤ 1000) (n : Nat) (hn : n = l.length) (b : Nat) (hb : b = W.heap.size) : BosAt (W.alloc (.cells cs t)) (.slice (some ⟨b, 0, none⟩) n n) l := by
  subst hn hb
  refine ⟨_, _, rfl, by unfold maxLen; omega, fun _ => ⟨W.heap.size, 0, rfl, fun i x hi => ?_⟩⟩
  rw [cell_new' W cs t _ (by rfl), ← Array.getElem?_toList, hc, List.getElem?_map, Nat.zero_add]
  simp [hi]
theorem vos_lit (W : World) (l : List Vo) (cs : Array Value) (t : TypeId) (hc : cs.toList = vcs l) (hm : l.length ≤ 1000) (n : Nat) (hn : n = l.length) (b : Nat) (hb : b = W.heap.size) : VosAt (W.alloc (.cells cs t)) (.slice (some ⟨b, 0, none⟩) n n) l := by
  subst hn hb
  refine ⟨_, _, rfl, by unfold maxLen; omega, fun _ => ⟨W.heap.size, 0, rfl, fun i x hi => ?_⟩⟩
  have hg := fun j hj => vcs_get l i x hi j hj
  simp only [cell_new' W cs t _ (by rfl), ← Array.getElem?_toList, hc, Nat.zero_add]
  exact ⟨(hg 0 (by omega)), (hg 1 (by omega)), (hg 2 (by omega))⟩
theorem hmk3 : ∀ w, (Instr.makeSlice 37 (.int .i64 3) (.int .i64 3)).run Try.prog w = .ok (.slice (some ⟨w.heap.size, 0, none⟩) 3 3) (w.alloc (.cells #[.int .i64 0, .int .i64 0, .int .i64 0, .int .i64 0, .int .i64 0, .int .i64 0, .int .i64 0, .int .i64 0, .int .i64 0] 32)) := fun _ => by kernel_rfl
theorem ew1 : EW [zV, zV, zV] [true, true, true] 0 100 60 [⟨1, 0, 160⟩, ⟨1, 0, 160⟩, ⟨1, 0, 160⟩] 0 1 160 0 := by
  have h := EW.ok (L := [zV, zV, zV]) (A := [true, true, true]) (hub := 0) (now := 100) (len := 60) 0 1 (100 + 60) (PW.ok (L := [zV, zV, zV]) (A := [true, true, true]) (hub := 0) (now := 100) (len := 60) 1 (by decide +kernel) (by decide +kernel) (by decide +kernel) (by decide +kernel)) (by decide +kernel)
  exact h
theorem ew2 : EW [⟨1, 0, 160⟩, ⟨1, 0, 160⟩, ⟨1, 0, 160⟩] [true, true, true] 1 150 60 [⟨1, 0, 160⟩, ⟨1, 0, 160⟩, ⟨1, 0, 160⟩] 0 0 0 22 := by
  have h := EW.few (L := [⟨1, 0, 160⟩, ⟨1, 0, 160⟩, ⟨1, 0, 160⟩]) (A := [true, true, true]) (hub := 1) (now := 150) (len := 60) 1 2 (150 + 60) (PW.ok (L := [⟨1, 0, 160⟩, ⟨1, 0, 160⟩, ⟨1, 0, 160⟩]) (A := [true, true, true]) (hub := 1) (now := 150) (len := 60) 2 (by decide +kernel) (by decide +kernel) (by decide +kernel) (by decide +kernel)) (by decide +kernel)
  exact h
theorem ew3 : EW [⟨1, 0, 160⟩, ⟨1, 0, 160⟩, ⟨1, 0, 160⟩] [true, true, false] 0 150 5 [⟨2, 0, 160⟩, ⟨2, 0, 160⟩, ⟨1, 0, 160⟩] 0 2 155 0 := by
  have h := EW.ok (L := [⟨1, 0, 160⟩, ⟨1, 0, 160⟩, ⟨1, 0, 160⟩]) (A := [true, true, false]) (hub := 0) (now := 150) (len := 5) 0 2 (150 + 5) (PW.ok (L := [⟨1, 0, 160⟩, ⟨1, 0, 160⟩, ⟨1, 0, 160⟩]) (A := [true, true, false]) (hub := 0) (now := 150) (len := 5) 2 (by decide +kernel) (by decide +kernel) (by decide +kernel) (by decide +kernel)) (by decide +kernel)
  exact h
theorem ew4 : EW [⟨2, 0, 160⟩, ⟨2, 0, 160⟩, ⟨1, 0, 160⟩] [false, true, true] 1 160 60 [⟨2, 0, 160⟩, ⟨3, 1, 220⟩, ⟨3, 1, 220⟩] 1 3 220 0 := by
  have h := EW.ok (L := [⟨2, 0, 160⟩, ⟨2, 0, 160⟩, ⟨1, 0, 160⟩]) (A := [false, true, true]) (hub := 1) (now := 160) (len := 60) 1 3 (160 + 60) (PW.ok (L := [⟨2, 0, 160⟩, ⟨2, 0, 160⟩, ⟨1, 0, 160⟩]) (A := [false, true, true]) (hub := 1) (now := 160) (len := 60) 3 (by decide +kernel) (by decide +kernel) (by decide +kernel) (by decide +kernel)) (by decide +kernel)
  exact h
theorem ew5 : EW [⟨2, 0, 160⟩, ⟨2, 0, 160⟩, ⟨1, 0, 160⟩] [false, true, true] 1 159 60 [⟨2, 0, 160⟩, ⟨2, 0, 160⟩, ⟨1, 0, 160⟩] 0 0 0 22 := by
  have h := EW.few (L := [⟨2, 0, 160⟩, ⟨2, 0, 160⟩, ⟨1, 0, 160⟩]) (A := [false, true, true]) (hub := 1) (now := 159) (len := 60) 1 3 (159 + 60) (PW.ok (L := [⟨2, 0, 160⟩, ⟨2, 0, 160⟩, ⟨1, 0, 160⟩]) (A := [false, true, true]) (hub := 1) (now := 159) (len := 60) 3 (by decide +kernel) (by decide +kernel) (by decide +kernel) (by decide +kernel)) (by decide +kernel)
  exact h
theorem pw6 : PW [⟨1, 0, 160⟩, ⟨1, 0, 160⟩, ⟨1, 0, 160⟩] [true, false, false] 0 0 1 0 0 0 22 := PW.few (by decide +kernel) (by decide +kernel)
end Go.Proofs.Ytifnhfpdcbpjlaa
