/- Delivery: copies of lists, 'Fresh'. -/
import Derived.Test.YtigpopemllamdaaWa
namespace Go.Proofs.Ytigpopemllamdaa
open Go.RowKit

theorem bo_cells {w : World} {a : Option Addr} {cap : Nat} {l : List Bool} (h : BosAt w (.slice a l.length cap) l) (ad : Addr) (ha : a = some ad) : ∀ j u, (l.map (Value.bool))[j]? = some u → w.cell? (ad.add j) = some u := by
  intro j u hu
  obtain ⟨a', cap', he, -, hc⟩ := h
  obtain ⟨rfl, rfl⟩ : a = a' ∧ cap = cap' := by simpa using he
  rw [List.getElem?_map] at hu
  cases hj : l[j]? with
  | none => rw [hj] at hu; cases hu
  | some x =>
    rw [hj] at hu
    obtain ⟨b', off', ha', hx⟩ := hc (by intro e; rw [e] at hj; cases hj)
    rw [ha] at ha'
    obtain rfl : ad = ⟨b', off', none⟩ := by simpa using ha'
    rw [Go.WideShapes.add_plain, hx j x hj]
    exact hu
theorem bo_one (l : List Bool) : ∀ u ∈ l.map (Value.bool), u.oneCell' = true := by
  intro u hu
  rw [List.mem_map] at hu
  obtain ⟨x, -, rfl⟩ := hu
  rfl
theorem bo_info : (Try.prog.info? 4).map (fun i => (i.zero, i.size, i.bytes)) = some (some (.bool false), 1, 1) := by kernel_rfl
theorem in_cells {w : World} {a : Option Addr} {cap : Nat} {l : List Int} (h : IntsAt w (.slice a l.length cap) l) (ad : Addr) (ha : a = some ad) : ∀ j u, (l.map (Value.int .i64))[j]? = some u → w.cell? (ad.add j) = some u := by
  intro j u hu
  obtain ⟨a', cap', he, -, hc⟩ := h
  obtain ⟨rfl, rfl⟩ : a = a' ∧ cap = cap' := by simpa using he
  rw [List.getElem?_map] at hu
  cases hj : l[j]? with
  | none => rw [hj] at hu; cases hu
  | some x =>
    rw [hj] at hu
    obtain ⟨b', off', ha', hx⟩ := hc (by intro e; rw [e] at hj; cases hj)
    rw [ha] at ha'
    obtain rfl : ad = ⟨b', off', none⟩ := by simpa using ha'
    rw [Go.WideShapes.add_plain, hx j x hj]
    exact hu
theorem in_one (l : List Int) : ∀ u ∈ l.map (Value.int .i64), u.oneCell' = true := by
  intro u hu
  rw [List.mem_map] at hu
  obtain ⟨x, -, rfl⟩ := hu
  rfl
theorem in_info : (Try.prog.info? 3).map (fun i => (i.zero, i.size, i.bytes)) = some (some (.int .i64 0), 1, 8) := by kernel_rfl
theorem row_step {w w1 : World} {base e s : Nat} {v : Value} {n : Nat} {xs : List Value} (h : w.ownsRow base e s v n xs) (hb : Below w.heap.size w w1) : w1.ownsRow base e s v n xs := by
  refine ⟨h.1, ?_⟩
  rcases h.2 with h0 | ⟨g, cap, cur, h1, h2, h3, h4⟩
  · exact .inl h0
  · exact .inr ⟨g, cap, cur, h1, h2, (hb.block g (Array.getElem?_eq_some_iff.1 h3).1).trans h3, h4⟩
theorem row_slice {w : World} {base e s : Nat} {v : Value} {n : Nat} {xs : List Value} (h : w.ownsRow base e s v n xs) : ∃ a c, v = .slice a n c := by
  rcases h.2 with ⟨rfl, rfl⟩ | ⟨g, cap, cur, rfl, -⟩
  · exact ⟨none, 0, rfl⟩
  · exact ⟨_, _, rfl⟩
theorem bos_of_row {w : World} {base : Nat} {t : TypeId} {v : Value} {xs : List Bool} (h : w.ownsRow base t 1 v xs.length (xs.map Value.bool)) : BosAt w v xs := by
  rcases h.2 with ⟨rfl, hn⟩ | ⟨g, cap, cur, rfl, hbg, hg, hnc, hcm, hcur, htake⟩
  · have : xs = [] := by simpa using hn
    subst this
    exact bos_nil _
  · have hc := h.cells (g := g) rfl
    refine ⟨_, cap, rfl, by omega, fun _ => ⟨g, 0, rfl, fun i x hi => ?_⟩⟩
    have := hc i (.bool x) (by rw [List.getElem?_map, hi]; rfl)
    rwa [Go.WideShapes.add_plain] at this
end Go.Proofs.Ytigpopemllamdaa
