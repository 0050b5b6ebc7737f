/- The walk of the program's 'winners'. -/
import Derived.Test.YtloilkfloidnjaaF
namespace Go.Proofs.Ytloilkfloidnjaa
open Go.RowKit Go.WideMaps

theorem scn_get {L : List Scn} {i : Nat} (h : i < L.length) : L[i]? = some (L.getD i zN) := by simp [List.getD_eq_getElem?_getD, h]
theorem scn_mem {L : List Scn} {i : Nat} (h : i < L.length) : L.getD i zN ∈ L := List.mem_of_getElem? (scn_get h)
theorem sett_mem {l : List Sett} {i : Nat} (h : i < l.length) : l.getD i zS ∈ l := List.mem_of_getElem? (getD_of h)
theorem nat_get {I : List Nat} {i : Nat} (h : i < I.length) : I[i]? = some (I.getD i 0) := by simp [List.getD_eq_getElem?_getD, h]
theorem nat_mem {I : List Nat} {i : Nat} (h : i < I.length) : I.getD i 0 ∈ I := List.mem_of_getElem? (nat_get h)
/-- The cells of a scene that lies there. -/
def ScnCells (w : World) (b off : Nat) (L : List Scn) : Prop := ∀ i, i < L.length → w.cell? ⟨b, off + i * 3, none⟩ = some (.string (L.getD i zN).name) ∧ w.cell? ⟨b, off + i * 3 + 1, none⟩ = some (.int .i64 (lyr L i)) ∧
  ∃ sa cap, w.cell? ⟨b, off + i * 3 + 2, none⟩ = some (.slice sa (stN L i).length cap) ∧ SettsAt w (.slice sa (stN L i).length cap) (stN L i)
theorem ScnsAt.open {w : World} {v : Value} {L : List Scn} (h : ScnsAt w v L) : ∃ a cap, v = .slice a L.length cap ∧ (L ≠ [] → ∃ b off, a = some ⟨b, off, none⟩ ∧ ScnCells w b off L) := by
  obtain ⟨a, cap, hv, -, hc⟩ := h
  refine ⟨a, cap, hv, fun hne => ?_⟩
  obtain ⟨b, off, ha, hx⟩ := hc hne
  refine ⟨b, off, ha, fun i hi => ?_⟩
  obtain ⟨h0, h1, sv, h2, h3⟩ := hx i _ (scn_get hi)
  obtain ⟨sa, sc, hsv, h4⟩ := h3
  subst hsv
  exact ⟨h0, h1, sa, sc, h2, ⟨sa, sc, rfl, h4⟩⟩
theorem ScnCells.step {w w1 : World} {b off : Nat} {L : List Scn} (h : ScnCells w b off L) (hb : Below w.heap.size w w1) : ScnCells w1 b off L := fun i hi => by
  obtain ⟨h0, h1, sa, cap, h2, h3⟩ := h i hi
  exact ⟨keep1 hb h0, keep1 hb h1, sa, cap, keep1 hb h2, h3.step hb⟩
/-- What 'winners' gives. -/
def WinPost (L : List Scn) (I : List Nat) (w : World) (e : Ending) (w' : World) : Prop :=
  e = .returned (.map (some w.heap.size)) ∧ Below w.heap.size w w' ∧ MW w' w.heap.size 1000 (outW L I I.length) ∧ WOk L (outW L I I.length)
set_option maxRecDepth 100000 in
set_option maxHeartbeats 4000000 in
theorem winners_any (v vI : Value) (L : List Scn) (I : List Nat) (w : World) (h : ScnsAt w v L) (hk : ∀ x ∈ L, x.ok) (hs : ∀ x ∈ L, x.sets.length ≤ 20) (_hl : L.length ≤ 12) (hI : NatsAt w vI I) (hIl : I.length ≤ 40) (hIr : ∀ i ∈ I, i < L.length) :
    Calls Try.prog 27 #[v, vI] w (WinPost L I w) := by
  obtain ⟨a, cap, rfl, hc⟩ := h.open
  obtain ⟨an, capn, rfl, hcn⟩ := hI
  have HC := Lib.hid hc
  have HN := Lib.hid hcn
  have HK := Lib.hid hk
  have HS := Lib.hid hs
  have HIr := Lib.hid hIr
  clear h hc hcn hk hs hIr
  have hmm := @run_makeMap Try.prog
  go_enter Try.func27, Try.ntmps27
  go_wp2_with fail
  go_loopw [15] (fun i wr => ∃ m n : Nat, m ≤ I.length ∧ i = .int .i64 m ∧ n ≤ m * 20 ∧ Hid (MW wr w.heap.size n (outW L I m)) ∧ Hid (WOk L (outW L I m)) ∧ Hid (Below w.heap.size w wr) ∧ w.heap.size + 1 ≤ wr.heap.size) (fun i _ => I.length - (intOf i).toNat)
  case atStart => exact ⟨0, 0, by omega, rfl, by omega, MW.made w, Lib.hid (fun _ _ _ h => by cases h), (Below.refl _ _).alloc (Nat.le_refl _) _, by simp⟩
  case round =>
    obtain ⟨m, n, hm, rfl, hnm, HM, HW, HB, hsz⟩ := hrel
    by_cases hlt : m < I.length
    · obtain ⟨b2, o2, rfl, hcs⟩ := HN.out (by intro h; rw [h] at hlt; simp at hlt)
      have c0 := keep1 HB.out (hcs m _ (nat_get hlt))
      have hi := HIr.out _ (nat_mem hlt)
      have HO := Lib.hid (show outW L I (m + 1) = inW L (I.getD m 0) (outW L I m) (stN L (I.getD m 0)).length from rfl)
      generalize I.getD m 0 = i at *
      generalize outW L I m = f at *
      obtain ⟨b, off, rfl, hsc⟩ := HC.out (by intro h; rw [h] at hi; simp at hi)
      have HX := Lib.hid hsc
      obtain ⟨-, k1, sa, sc, k2, hss⟩ := hsc i hi
      have c1 := keep1 HB.out k1
      have c2 := keep1 HB.out k2
      have HSS := Lib.hid hss
      clear k1 k2 hss
      have hs20 := HS.out _ (scn_mem hi)
      have hs20 : (stN L i).length ≤ 20 := hs20
      clear hcs hsc
      go_wp2_with fail
      go_loopw [25] (fun j w2 => ∃ k n2 : Nat, k ≤ (stN L i).length ∧ j = .int .i64 k ∧ n2 ≤ m * 20 + k ∧ Hid (MW w2 w.heap.size n2 (inW L i f k)) ∧ Hid (WOk L (inW L i f k)) ∧ Hid (Below w.heap.size w w2) ∧ w.heap.size + 1 ≤ w2.heap.size) (fun j _ => (stN L i).length - (intOf j).toNat)
      case atStart => exact ⟨0, n, by omega, rfl, by omega, HM, HW, HB, hsz⟩
      case round =>
        obtain ⟨k, n2, hk, rfl, hn2, HM2, HW2, HB2, hsz2⟩ := hrel
        by_cases hlt2 : k < (stN L i).length
        · have HX2 := Lib.hid (HX.out.step HB2.out)
          obtain ⟨-, d1, -, -, -, -⟩ := HX2.out i hi
          have hss2 := HSS.out.step HB2.out
          obtain ⟨sb, cap2, hsv, -, hsx⟩ := hss2
          simp only [Value.slice.injEq, true_and] at hsv
          obtain ⟨rfl, rfl⟩ := hsv
          obtain ⟨b3, o3, rfl, hcs⟩ := hsx (by intro h; rw [h] at hlt2; simp at hlt2)
          obtain ⟨e0, e1, e2, e3, e4⟩ := hcs k _ (getD_of hlt2)
          have hok := (HK.out _ (scn_mem hi)).2 _ (sett_mem hlt2)
          obtain ⟨hd, ha⟩ := hok
          have HStep := Lib.hid (show inW L i f (k + 1) = stepW L i k ((stN L i).getD k zS) (inW L i f k) from rfl)
          have HW3 := Lib.hid (HW2.out.step hi hlt2 ((stN L i).getD k zS))
          rw [show (L.getD i zN).sets = stN L i from rfl] at hd ha
          generalize (stN L i).getD k zS = x at *
          obtain ⟨xd, xa, xn, xt, xu⟩ := x
          generalize inW L i f k = F at *
          simp only at e0 e1 e2 e3 e4 hd ha
          have HL := Lib.hid (HM2.out.alloc (.cells #[.string xd, .string xa, .string xn, .int .i64 xt, .string xu] 40))
          have hrun := HL.out.look hd ha
          clear hcs hsx
          have HSt := Lib.hid (show stepW L i k ⟨xd, xa, xn, xt, xu⟩ F = if beats L i (F xd xa) then upd F xd xa (i, k) else F from rfl)
          cases hf : F xd xa with
          | none =>
            have HR : Hid (inW L i f (k + 1) = upd F xd xa (i, k)) := Lib.hid (HStep.out.trans (HSt.out.trans (by rw [hf]; rfl)))
            rw [hf] at hrun
            simp only [rV, wV, Option.getD_none, Option.isSome_none] at hrun
            go_wp2
            go_quiet (fail)
            go_wp2
            have HL2 := Lib.hid ((HL.out.alloc (.cells #[.int .i64 0, .int .i64 0] 61)).drewN nq)
            obtain ⟨w1, hst, hm1, hg⟩ := HL2.out.store hd ha (i, k) (by omega)
            have HM4 := Lib.hid (HR.out.symm ▸ hm1)
            have HB4 := Lib.hid ((((HB2.out.alloc (by omega) (.cells #[.string xd, .string xa, .string xn, .int .i64 xt, .string xu] 40)).alloc (by simp; omega) (.cells #[.int .i64 0, .int .i64 0] 61)).trans (below_drewN' _ _ nq)))
            clear hm1
            simp only [rV, wV] at hst
            rw [hst]
            have hz4 := hg.size
            simp at hz4
            have HB5 := Lib.hid (HB4.out.grown hg (by simp; omega) (fun j hj => by cases hj; exact Nat.le_refl _))
            go_wp2
            go_roundw
            case rel => exact ⟨k + 1, n2 + 1, by omega, by go_num, by omega, HM4, Lib.hid (HStep.out.symm ▸ HW3.out), HB5, by omega⟩
            case measure => simp [intOf]; omega
          | some p => 
            have hp := HW2.out xd xa p hf
            obtain ⟨-, g1, -⟩ := HX2.out p.1 hp.1
            have hp1 := hp.1
            rw [hf] at hrun
            simp only [rV, wV, Option.getD_some, Option.isSome_some] at hrun
            have HR := Lib.hid (show inW L i f (k + 1) = if decide (lyr L p.1 ≤ lyr L i) then upd F xd xa (i, k) else F from HStep.out.trans (HSt.out.trans (by rw [hf]; rfl)))
            obtain ⟨ps, pk⟩ := p
            simp only at g1 hp1 hrun HR
            generalize lyr L ps = lp at *
            generalize hli : lyr L i = li at *
            have hbb : Below wr.heap.size wr ((wr.alloc (.cells #[.string xd, .string xa, .string xn, .int .i64 xt, .string xu] 40)).alloc (.cells #[.int .i64 (ps : Int), .int .i64 (pk : Int)] 61)) := ((Below.refl _ _).alloc (Nat.le_refl _) _).alloc (by simp) _
            have d1w := keep1 hbb d1
            have g1w := keep1 hbb g1
            have z0 := cell_new' (wr.alloc (.cells #[.string xd, .string xa, .string xn, .int .i64 xt, .string xu] 40)) #[.int .i64 (ps : Int), .int .i64 (pk : Int)] 61 (wr.heap.size + 1) (by simp) 0
            simp at z0
            clear hbb
            cases ht : decide (lp ≤ li)
            · have HR2 : Hid (inW L i f (k + 1) = F) := Lib.hid (HR.out.trans (by rw [ht]; rfl))
              have HM4 := Lib.hid (HR2.out.symm ▸ HL.out.alloc (.cells #[.int .i64 (ps : Int), .int .i64 (pk : Int)] 61))
              have HB4 := Lib.hid ((HB2.out.alloc (by omega) (.cells #[.string xd, .string xa, .string xn, .int .i64 xt, .string xu] 40)).alloc (by simp; omega) (.cells #[.int .i64 (ps : Int), .int .i64 (pk : Int)] 61))
              go_wp2
              go_quiet (fail)
              go_wp2
              go_roundw
              case rel => exact ⟨k + 1, n2, by omega, by go_num, by omega, HM4.out.drewN nq, Lib.hid (HStep.out.symm ▸ HW3.out), HB4.out.trans (below_drewN' _ _ nq), by simp; omega⟩
              case measure => simp [intOf]; omega
            · have HR2 : Hid (inW L i f (k + 1) = upd F xd xa (i, k)) := Lib.hid (HR.out.trans (by rw [ht]; rfl))
              go_wp2
              go_quiet (fail)
              go_wp2
              have HL2 := Lib.hid ((HL.out.alloc (.cells #[.int .i64 (ps : Int), .int .i64 (pk : Int)] 61)).drewN nq)
              obtain ⟨w1, hst, hm1, hg⟩ := HL2.out.store hd ha (i, k) (by omega)
              have HM4 := Lib.hid (HR2.out.symm ▸ hm1)
              have HB4 := Lib.hid ((((HB2.out.alloc (by omega) (.cells #[.string xd, .string xa, .string xn, .int .i64 xt, .string xu] 40)).alloc (by simp; omega) (.cells #[.int .i64 (ps : Int), .int .i64 (pk : Int)] 61)).trans (below_drewN' _ _ nq)))
              clear hm1
              simp only [rV, wV] at hst
              rw [hst]
              have hz4 := hg.size
              simp at hz4
              have HB5 := Lib.hid (HB4.out.grown hg (by simp; omega) (fun j hj => by cases hj; exact Nat.le_refl _))
              go_wp2
              go_roundw
              case rel => exact ⟨k + 1, n2 + 1, by omega, by go_num, by omega, HM4, Lib.hid (HStep.out.symm ▸ HW3.out), HB5, by omega⟩
              case measure => simp [intOf]; omega
        · have hkl : k = (stN L i).length := by omega
          subst hkl
          have HM4 := Lib.hid (HO.out.symm ▸ HM2.out)
          have HW4 := Lib.hid (HO.out.symm ▸ HW2.out)
          go_wp2
          go_roundw
          case rel => exact ⟨m + 1, n2, by omega, by go_num, by omega, HM4, HW4, HB2, hsz2⟩
          case measure => simp [intOf]; omega
    · have hml : m = I.length := by omega
      subst hml
      go_wp2
      go_ret
      exact ⟨rfl, HB.out, HM.out.mono (by omega), HW.out⟩
end Go.Proofs.Ytloilkfloidnjaa
