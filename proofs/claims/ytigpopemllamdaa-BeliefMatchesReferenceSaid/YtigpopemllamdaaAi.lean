/- Beliefs: new records. -/
import Derived.Test.YtigpopemllamdaaAh
namespace Go.Proofs.Ytigpopemllamdaa
open Go.RowKit

/-- Of the older blocks, one alone may have changed. -/
structure Chg (k : Nat) (w w' : World) : Prop where
  os : w'.os = w.os
  tape : w'.tape = w.tape
  output : w'.output = w.output
  size : w.heap.size ≤ w'.heap.size
  block : ∀ j, j < w.heap.size → j ≠ k → w'.heap[j]? = w.heap[j]?
theorem Chg.of {k : Nat} {w w' : World} (h : Below w.heap.size w w') : Chg k w w' := ⟨h.os, h.tape, h.output, h.size, fun j hj _ => h.block j hj⟩
theorem Chg.trans {k : Nat} {w w1 w2 : World} (h1 : Chg k w w1) (h2 : Chg k w1 w2) : Chg k w w2 :=
  ⟨h2.os.trans h1.os, h2.tape.trans h1.tape, h2.output.trans h1.output, Nat.le_trans h1.size h2.size, fun j hj hk => (h2.block j (Nat.lt_of_lt_of_le hj h1.size) hk).trans (h1.block j hj hk)⟩
theorem Chg.set {k : Nat} {w w1 : World} (h : Chg k w w1) (o : Nat) (v : Value) : Chg k w (w1.setCell ⟨k, o, none⟩ v) :=
  ⟨h.os, h.tape, h.output, by simpa using h.size, fun j hj hk => (Below.heap_setCell w1 ⟨k, o, none⟩ v j hk).trans (h.block j hj hk)⟩
theorem Chg.below {k B : Nat} {w w' : World} (h : Chg k w w') (hk : B ≤ k) (hB : B ≤ w.heap.size) : Below B w w' :=
  ⟨h.os, h.tape, h.output, h.size, fun j hj => h.block j (Nat.lt_of_lt_of_le hj hB) (by omega)⟩
theorem Chg.cs {k m : Nat} {w w' : World} {vs : Array Value} (h : Chg k w w') (hm : m ≠ k) (hc : Cs w m vs) : Cs w' m vs :=
  ⟨fun j hj => (World.cell?_of_block (a := ⟨m, j, none⟩) (h.block m hc.2.2 hm)).trans (hc.1 j hj), fun j hj => (World.frozen?_of_block (a := ⟨m, j, none⟩) (h.block m hc.2.2 hm)).trans (hc.2.1 j hj), Nat.lt_of_lt_of_le hc.2.2 h.size⟩
theorem Chg.ods {k n c : Nat} {a : Option Addr} {w w' : World} {L : List Od} (h : Chg k w w') (hne : ∀ g o, a = some ⟨g, o, none⟩ → g ≠ k) (ho : OdsAt w (.slice a n c) L) : OdsAt w' (.slice a n c) L := by
  obtain ⟨a2, cap, hv, h1, hm, hc⟩ := ho
  refine ⟨a2, cap, hv, h1, hm, fun hl => ?_⟩
  obtain ⟨b1, off, ha, hx⟩ := hc hl
  have hg : a = a2 := by simp at hv; exact hv.1
  have hn := hne b1 off (hg.trans ha)
  refine ⟨b1, off, ha, fun i x hi => ?_⟩
  obtain ⟨q0, q1, q2, q3⟩ := hx i x hi
  have hk : ∀ o, w'.cell? ⟨b1, o, none⟩ = w.cell? ⟨b1, o, none⟩ := fun o => World.cell?_of_block (a := ⟨b1, o, none⟩) (h.block b1 (World.block_lt_of_cell? _ _ q0) hn)
  exact ⟨(hk _).trans q0, (hk _).trans q1, (hk _).trans q2, (hk _).trans q3⟩
theorem Chg.ints {k n c : Nat} {a : Option Addr} {w w' : World} {L : List Int} (h : Chg k w w') (hne : ∀ g o, a = some ⟨g, o, none⟩ → g ≠ k) (ho : IntsAt w (.slice a n c) L) : IntsAt w' (.slice a n c) L := by
  obtain ⟨a2, cap, hv, hm, hc⟩ := ho
  refine ⟨a2, cap, hv, hm, fun hl => ?_⟩
  obtain ⟨b1, off, ha, hx⟩ := hc hl
  have hg : a = a2 := by simp at hv; exact hv.1
  have hn := hne b1 off (hg.trans ha)
  refine ⟨b1, off, ha, fun i x hi => ?_⟩
  have q := hx i x hi
  exact (World.cell?_of_block (a := ⟨b1, off + i, none⟩) (h.block b1 (World.block_lt_of_cell? _ _ q) hn)).trans q
theorem row_adr {w : World} {base e s n c : Nat} {a : Option Addr} {m : Nat} {xs : List Value} (h : w.ownsRow base e s (.slice a n c) m xs) : ∀ g o, a = some ⟨g, o, none⟩ → base ≤ g := by
  intro g o ha
  subst ha
  rcases h.2 with ⟨e, -⟩ | ⟨g', cp, cur, e, h1, -⟩
  · cases e
  · cases e; exact h1
/-- The belief behind 'k' has records. -/
def Bel (k B : Nat) (w : World) (v : Value) (L : List Od) : Prop :=
  ∃ (ua : Option Addr) (uc : Nat), Cs w k #[.slice ua (vof L).length uc, v] ∧ IntsAt w (.slice ua (vof L).length uc) (vof L) ∧ ∀ g o, ua = some ⟨g, o, none⟩ → B ≤ g
set_option maxRecDepth 100000 in
set_option maxHeartbeats 8000000 in
theorem become_any (k : Nat) (v1 v2 : Value) (sa : Option Addr) (sc : Nat) (L : List Od) (w : World) (hC : Cs w k #[v1, v2]) (h : OdsAt w (.slice sa L.length sc) L) (h9 : L.length ≤ 100000) :
    Calls Try.prog 49 #[.pointer (some ⟨k, 0, none⟩), .slice sa L.length sc] w fun e w' => e = .returned (.tuple #[]) ∧ Bel k w.heap.size w' (.slice sa L.length sc) L ∧ Chg k w w' := by
  have HL := Lib.hid h
  have HC := Lib.hid hC
  have c0 := hC.c 0 rfl
  have c1 := hC.c 1 rfl
  have cz := hC.2.2
  clear hC h
  go_enter Try.func49, Try.ntmps49
  go_wp2_with fail
  refine (valuesOf_any (.slice sa L.length sc) L _ HL.out h9).mono ?_
  rintro e w5 ⟨u, rfl, hu, b5⟩
  obtain ⟨ua, uc, rfl⟩ := row_slice hu
  have HA := Lib.hid (row_adr hu)
  have HU := Lib.hid (ints_of_row hu)
  have HC5 := Lib.hid (HC.out.step b5)
  have HG := Lib.hid (Chg.of (k := k) b5)
  have HZ := Lib.hid (HC.out.2.2)
  clear hu b5 c0 c1 cz HC
  have c0 := HC5.out.c 0 rfl
  have c1 := HC5.out.c 1 rfl
  have f0 := HC5.out.f 0 (by simp)
  have f1 := HC5.out.f 1 (by simp)
  have cz := HC5.out.2.2
  go_wp2
  have hne : ∀ g o, ua = some ⟨g, o, none⟩ → g ≠ k := fun g o e h => by have := HA.out g o e; have := HZ.out; omega
  refine bodyPost_end (v := .tuple #[]) (by simp [results, Try.results49, go_sem]) rfl ⟨rfl, ⟨ua, uc, Cs.set (Cs.set HC5.out 1 (by simp) (.slice sa L.length sc) rfl) 0 (by simp) (.slice ua (vof L).length uc) rfl, (((Chg.of (Below.refl _ w5)).set 1 _).set 0 _).ints hne HU.out, HA.out⟩, (HG.out.set 1 _).set 0 _⟩
end Go.Proofs.Ytigpopemllamdaa
