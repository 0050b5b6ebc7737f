/- The walk of the program's 'Wins'. -/
import Derived.Test.YtloilkfloidnjaaG
import Derived.Deep.RegionWith
import Derived.Deep.RegionLaw
namespace Go.Proofs.Ytloilkfloidnjaa
open Go.RowKit Go.WideMaps

theorem fI_lt {L : List Scn} {s : ByteArray} {k : Nat} (h : fI L s = some k) : k < L.length := by
  unfold fI at h
  rw [List.findIdx?_eq_some_iff_getElem] at h
  exact h.1
/-- The indices of the names. -/
def ixs (L : List Scn) (N : List ByteArray) : List Nat := N.map (ixOf L)
theorem ixs_len (L : List Scn) (N : List ByteArray) : (ixs L N).length = N.length := by simp [ixs]
theorem ixs_row (L : List Scn) (N : List ByteArray) : rowN L N = (ixs L N).map fun (x : Nat) => .int .i64 (x : Int) := by simp [rowN, ixs]
theorem ixs_lt {L : List Scn} {N : List ByteArray} (h : kn L N = true) : ∀ i ∈ ixs L N, i < L.length := by
  intro i hi
  obtain ⟨s, hs, rfl⟩ := List.mem_map.1 hi
  unfold kn at h
  have := List.all_eq_true.1 h s hs
  obtain ⟨k, hk⟩ := Option.isSome_iff_exists.1 this
  unfold ixOf
  rw [hk]
  exact fI_lt hk
theorem find_nats {L : List Scn} {N : List ByteArray} {w : World} {base : Nat} {v : Value} (h : w.ownsRow base 3 1 v N.length (rowN L N)) : NatsAt w v (ixs L N) :=
  nats_of_row (base := base) (by rw [ixs_len, ← ixs_row]; exact h)
/-- The winners of the named scenes. -/
def win (L : List Scn) (N : List ByteArray) : WF := outW L (ixs L N) (ixs L N).length
/-- What 'Wins' gives. -/
def wI (L : List Scn) (N : List ByteArray) (d a : ByteArray) : Int := if kn L N then (match win L N d a with | some p => (p.1 : Int) | none => -1) else -1
/-- What bounds the inputs. -/
structure Fit (L : List Scn) (N : List ByteArray) : Prop where
  ok : ∀ x ∈ L, x.ok
  sets : ∀ x ∈ L, x.sets.length ≤ 20
  len : L.length ≤ 12
  sizes : ∀ x ∈ N, x.size ≤ maxLen
  names : N.length ≤ 40
theorem keepf {w w1 : World} {p : Addr} {v : Value} (hb : Below w.heap.size w w1) (h : w.cell? p = some v) (hf : w.frozen? p = false) : w1.frozen? p = false := (hb.frozen (World.block_lt_of_cell? _ _ h)).trans hf
theorem winners_from {L : List Scn} {N : List ByteArray} (F : Fit L N) (hkn : kn L N = true) (v vI : Value) (w0 w : World) (h : ScnsAt w0 v L) (hI : NatsAt w0 vI (ixs L N)) (hb : Below w0.heap.size w0 w) :
    Calls Try.prog 27 #[v, vI] w (WinPost L (ixs L N) w) :=
  winners_any v vI L (ixs L N) w (h.step hb) F.ok F.sets F.len (hI.step hb) (by rw [ixs_len]; exact F.names) (ixs_lt hkn)
set_option maxRecDepth 100000 in
set_option maxHeartbeats 4000000 in
theorem wins_any (v vn : Value) (L : List Scn) (N : List ByteArray) (d a : ByteArray) (w : World) (h : ScnsAt w v L) (hn : NamesAt w vn N) (F : Fit L N) (hd : d.size ≤ maxLen) (ha : a.size ≤ maxLen) :
    Calls Try.prog 16 #[v, vn, .agg #[.string d, .string a]] w fun e w' => e = .returned (.int .i64 (wI L N d a)) ∧ Below w.heap.size w w' := by
  have hb0 := (Below.refl w.heap.size w).alloc (Nat.le_refl _) (.cells #[.string d, .string a] 25)
  have HS := Lib.hid (h.step hb0)
  have HN := Lib.hid (hn.step hb0)
  have HB0 := Lib.hid hb0
  obtain ⟨aa, cap, rfl, -⟩ := h.open
  clear hb0 h hn
  go_enter Try.func16, Try.ntmps16
  go_wp2_with fail
  refine (sfind_any _ vn L N _ HS.out F.ok HN.out F.sizes F.len F.names).mono ?_
  rintro e w1 ⟨vI, rfl, hb1, hrow, hnil⟩
  cases hkn : kn L N
  · have HF := Lib.hid (show wI L N d a = -1 by unfold wI; rw [hkn]; rfl)
    rw [hnil hkn]
    have HB := Lib.hid (HB0.out.trans (hb1.mono (by simp)))
    clear hrow hnil hb1
    go_wp2
    go_ret
    exact ⟨ret_int HF.out.symm, HB.out⟩
  · have HI := Lib.hid (find_nats (hrow hkn))
    have HS1 := Lib.hid (HS.out.step hb1)
    have HB := Lib.hid (HB0.out.trans (hb1.mono (by simp)))
    have c0 := (hb1.cell (p := ⟨w.heap.size, 0, none⟩) (by simp)).trans (cell_new' w #[.string d, .string a] 25 _ rfl 0)
    have c1 := (hb1.cell (p := ⟨w.heap.size, 1, none⟩) (by simp)).trans (cell_new' w #[.string d, .string a] 25 _ rfl 1)
    simp at c0 c1
    have HW := Lib.hid (winners_from F hkn (.slice aa L.length cap) vI w1)
    clear hrow hnil hb1
    have hvI : ∃ an n cn, vI = .slice an n cn := by
      obtain ⟨an, cn, h, -⟩ := HI.out
      exact ⟨an, _, cn, h⟩
    obtain ⟨an, n, cn, rfl⟩ := hvI
    go_wp2_with fail
    obtain ⟨p1, p2, o, hwin⟩ : ∃ (p1 p2 : Nat) (o : Bool), Hid ((Value.tuple #[wV ((win L N d a).getD (0, 0)), .bool (win L N d a).isSome] = Value.tuple #[.agg #[.int .i64 (p1 : Int), .int .i64 (p2 : Int)], .bool o]) ∧ wI L N d a = if o then (p1 : Int) else -1) := by
      refine ⟨((win L N d a).getD (0, 0)).1, ((win L N d a).getD (0, 0)).2, (win L N d a).isSome, rfl, ?_⟩
      unfold wI
      rw [hkn]
      cases win L N d a <;> rfl
    have hsz1 := World.block_lt_of_cell? _ _ c0
    simp only at hsz1
    have cA0 := keep1 ((Below.refl w1.drew.heap.size w1.drew).alloc (Nat.le_refl _) (.cells #[.int .i64 0, .int .i64 0] 61)) (show w1.drew.cell? ⟨w.heap.size, 0, none⟩ = _ from c0)
    have cA1 := keep1 ((Below.refl w1.drew.heap.size w1.drew).alloc (Nat.le_refl _) (.cells #[.int .i64 0, .int .i64 0] 61)) (show w1.drew.cell? ⟨w.heap.size, 1, none⟩ = _ from c1)
    have HA : Hid ((w1.drew.alloc (.cells #[.int .i64 0, .int .i64 0] 61)).cell? ⟨w1.heap.size, 0, none⟩ = some (.int .i64 0) ∧ (w1.drew.alloc (.cells #[.int .i64 0, .int .i64 0] 61)).cell? ⟨w1.heap.size, 1, none⟩ = some (.int .i64 0) ∧
        (w1.drew.alloc (.cells #[.int .i64 0, .int .i64 0] 61)).frozen? ⟨w1.heap.size, 0, none⟩ = false ∧ (w1.drew.alloc (.cells #[.int .i64 0, .int .i64 0] 61)).frozen? ⟨w1.heap.size, 1, none⟩ = false) :=
      Lib.hid ⟨cell_new' w1.drew #[.int .i64 0, .int .i64 0] 61 _ rfl 0, cell_new' w1.drew #[.int .i64 0, .int .i64 0] 61 _ rfl 1, frozen_new w1.drew #[.int .i64 0, .int .i64 0] 61 0, frozen_new w1.drew #[.int .i64 0, .int .i64 0] 61 1⟩
    go_region_law (first | (go_simp; go_at_call 27; refine (HW.out _ HS1.out HI.out (by first | exact Below.refl _ _ | exact below_drew _ _ | exact below_drewN' _ _ _ | exact ((Below.refl _ _).alloc (Nat.le_refl _) _) | exact ((Below.refl _ _).alloc (Nat.le_refl _) _).trans (below_drew _ _) | exact (below_drew _ _).trans ((Below.refl _ _).alloc (by simp) _) )).mono ?_; rintro e w2 ⟨rfl, hb2, hm2, hw2⟩; have r1 := (hm2.look hd ha).trans (congrArg (fun v => Result.ok v w2) hwin.out.1); have r2 := ((hm2.alloc (.cells #[.int .i64 0, .int .i64 0] 61)).look hd ha).trans (congrArg (fun v => Result.ok v (w2.alloc (.cells #[.int .i64 0, .int .i64 0] 61))) hwin.out.1); have HB2 := Lib.hid hb2; have HM2 := Lib.hid hm2; have HW2 := Lib.hid hw2; have c0' := (hb2.cell (p := ⟨w.heap.size, 0, none⟩) (by simp; omega)).trans (by first | exact c0 | exact cA0); have c1' := (hb2.cell (p := ⟨w.heap.size, 1, none⟩) (by simp; omega)).trans (by first | exact c1 | exact cA1); have d0' := keep1 ((Below.refl w2.heap.size w2).alloc (Nat.le_refl _) (.cells #[.int .i64 0, .int .i64 0] 61)) c0'; have d1' := keep1 ((Below.refl w2.heap.size w2).alloc (Nat.le_refl _) (.cells #[.int .i64 0, .int .i64 0] 61)) c1'; (first | (have z0 := keep1 hb2 HA.out.1; have z1 := keep1 hb2 HA.out.2.1; have y0 := keepf hb2 HA.out.1 HA.out.2.2.1; have y1 := keepf hb2 HA.out.2.1 HA.out.2.2.2) | skip); clear hb2 hm2 hw2; simp [rV] at r1; simp [rV] at r2))
    all_goals
      have hsz2 := HB2.out.size
      simp at hsz2
      have hB3 := HB.out.size
      have HE : Hid (Below w.heap.size w w2) := Lib.hid (by first
        | exact (HB.out.trans (below_drew _ _)).trans (HB2.out.mono (by simp; omega))
        | exact ((HB.out.trans (below_drew _ _)).alloc (by simp; omega) _).trans (HB2.out.mono (by simp; omega)))
      cases o
      · have hwI := Lib.hid (show wI L N d a = -1 from hwin.out.2)
        go_wp2
        go_ret
        refine ⟨ret_int hwI.out.symm, ?_⟩
        first
          | exact HE.out.alloc (by omega) _
          | exact (HE.out.setCell (p := ⟨_, 0, none⟩) (by simp; omega) _).setCell (p := ⟨_, 1, none⟩) (by simp; omega) _
      · have hwI := Lib.hid (show wI L N d a = (p1 : Int) from hwin.out.2)
        go_wp2
        go_ret
        refine ⟨ret_int hwI.out.symm, ?_⟩
        first
          | exact HE.out.alloc (by omega) _
          | exact (HE.out.setCell (p := ⟨_, 0, none⟩) (by simp; omega) _).setCell (p := ⟨_, 1, none⟩) (by simp; omega) _
end Go.Proofs.Ytloilkfloidnjaa
