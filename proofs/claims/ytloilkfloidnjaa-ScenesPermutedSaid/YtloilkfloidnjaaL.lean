/- The contract of the reference's 'Refs'. -/
import Derived.Test.YtloilkfloidnjaaK
import Derived.Test.YtloilkfloidnjaaN
namespace Go.Proofs.Ytloilkfloidnjaa
open Go.RowKit Go.WideMaps

abbrev Rf := ByteArray × ByteArray
/-- A reference is among the first n. -/
def hasN (out : List Rf) (d a : ByteArray) (n : Nat) : Bool := (out.take n).any fun r => sE r.1 d && sE r.2 a
def hasR (out : List Rf) (d a : ByteArray) : Bool := hasN out d a out.length
def addR (out : List Rf) (s : Sett) : List Rf := if hasR out s.dev s.attr then out else out ++ [(s.dev, s.attr)]
/-- The references of the named scenes, as the reference lists them. -/
def rfs (L : List Scn) (N : List ByteArray) : List Rf := (remI L (ixs L N) 0).foldl addR []
def zR : Rf := (⟨#[]⟩, ⟨#[]⟩)
theorem rf_get {out : List Rf} {k : Nat} (h : k < out.length) : out[k]? = some (out.getD k zR) := by simp [List.getD_eq_getElem?_getD, h]
theorem hasN_succ {out : List Rf} {d a : ByteArray} {n : Nat} (h : n < out.length) : hasN out d a (n + 1) = (hasN out d a n || (sE (out.getD n zR).1 d && sE (out.getD n zR).2 a)) := by
  unfold hasN
  rw [List.take_succ_eq_append_getElem h, List.any_append]
  simp [List.getD_eq_getElem?_getD, h]
/-- References lie behind a slice. -/
def RefsAt (w : World) (v : Value) (l : List Rf) : Prop :=
  ∃ a cap, v = .slice a l.length cap ∧ (l ≠ [] → ∃ b off, a = some ⟨b, off, none⟩ ∧ ∀ (i : Nat) (x : Rf), l[i]? = some x → w.cell? ⟨b, off + i * 2, none⟩ = some (.string x.1) ∧ w.cell? ⟨b, off + i * 2 + 1, none⟩ = some (.string x.2))
theorem RefsAt.step {w w1 : World} {v : Value} {l : List Rf} (h : RefsAt w v l) (hb : Below w.heap.size w w1) : RefsAt w1 v l := by
  obtain ⟨a, cap, hv, hc⟩ := h
  refine ⟨a, cap, hv, fun hl => ?_⟩
  obtain ⟨b, off, ha, hx⟩ := hc hl
  exact ⟨b, off, ha, fun i x h => ⟨keep1 hb (hx i x h).1, keep1 hb (hx i x h).2⟩⟩
def rcs (l : List Rf) : List Value := l.flatMap fun r => [.string r.1, .string r.2]
theorem rcs_snoc (l : List Rf) (x : Rf) : rcs (l ++ [x]) = rcs l ++ [.string x.1, .string x.2] := by simp [rcs]
theorem rcs_get (l : List Rf) : ∀ (i : Nat) (x : Rf), l[i]? = some x → ∀ j, j < 2 → (rcs l)[i * 2 + j]? = [Value.string x.1, .string x.2][j]? := by
  induction l with
  | nil => intro i x h; simp at h
  | cons y l ih =>
    intro i x h j hj
    have hs : rcs (y :: l) = [.string y.1, .string y.2] ++ rcs l := by simp [rcs]
    rw [hs]
    cases i with
    | zero =>
      simp at h; subst h
      rw [List.getElem?_append_left (by simp; omega)]
      simp
    | succ i =>
      rw [List.getElem?_append_right (by simp; omega)]
      have := ih i x (by simpa using h) j hj
      rw [← this]
      congr 1
      simp; omega
theorem refs_of_row {w : World} {base : Nat} {v : Value} {l : List Rf} (h : w.ownsRow base 25 2 v l.length (rcs l)) : RefsAt w v l := by
  have hc := fun g (hg : v.ownBlock = some g) => h.cells hg
  rcases h.2 with ⟨rfl, h0⟩ | ⟨g, cap, cur, rfl, -⟩
  · have : l = [] := List.length_eq_zero_iff.1 h0
    subst this
    exact ⟨none, 0, rfl, fun h => absurd rfl h⟩
  · refine ⟨some ⟨g, 0, none⟩, cap, rfl, fun _ => ⟨g, 0, rfl, fun i x hi => ?_⟩⟩
    have hj := fun j (hj : j < 2) u (hu : [Value.string x.1, .string x.2][j]? = some u) => hc g rfl (i * 2 + j) u ((rcs_get l i x hi j hj).trans hu)
    simp only [Go.WideShapes.add_plain] at hj
    exact ⟨hj 0 (by omega) _ rfl, hj 1 (by omega) _ rfl⟩
theorem info25 : (Try.prog.info? 25).map (fun i => (i.zero, i.size, i.bytes)) = some (some (.agg #[.string ⟨#[]⟩, .string ⟨#[]⟩]), 2, 32) := by kernel_rfl
theorem ixs_at {L : List Scn} {N : List ByteArray} {m : Nat} (h : m < N.length) : (ixs L N).getD m 0 = ixOf L (nameAt N m) := by
  unfold ixs nameAt
  simp [List.getD_eq_getElem?_getD, h]
theorem cell_two_new (W : World) (a b : Value) (T : TypeId) : ∀ j u, [a, b][j]? = some u → (W.alloc (.cells #[a, b] T)).cell? ((⟨W.heap.size, 0, none⟩ : Addr).add j) = some u := by
  intro j u hu
  have hadd : (⟨W.heap.size, 0, none⟩ : Addr).add j = ⟨W.heap.size, j, none⟩ := by unfold Addr.add; split <;> simp_all
  rw [hadd, World.cell?_alloc_new]
  simpa using hu
theorem ownsRow_drewN {W : World} {base : Nat} {e : TypeId} {size : Nat} {v : Value} {k : Nat} {xs : List Value} (h : W.ownsRow base e size v k xs) (n : Nat) : (W.drewN n).ownsRow base e size v k xs := h
theorem ret_v {a b : Value} (h : a = b) : Ending.returned a = .returned b := by rw [h]
set_option maxRecDepth 100000 in
set_option maxHeartbeats 8000000 in
theorem refs_any (v vn : Value) (L : List Scn) (N : List ByteArray) (w : World) (h : ScnsAt w v L) (hn : NamesAt w vn N) (F : Fit L N) (hkn : kn L N = true) :
    Calls Try.prog 26 #[v, vn] w fun e w' => ∃ u, e = .returned u ∧ RefsAt w' u (rfs L N) ∧ Below w.heap.size w w' := by
  obtain ⟨i0, hi, hz0, hz1, hz2⟩ := info_parts info25
  obtain ⟨aa, cap, rfl, hc0⟩ := h.open
  obtain ⟨an, capn, rfl, -, hcn⟩ := hn
  have hNl := F.names
  have hLl := F.len
  have hlen0 := remI_len F.sets (ixs L N) (ixs_lt hkn)
  rw [ixs_len] at hlen0
  have HFs := Lib.hid F.sets
  have HS := Lib.hid h
  have HN := Lib.hid hcn
  have HC := Lib.hid hc0
  have HK := Lib.hid hkn
  clear h hcn hc0 F
  go_enter Try.func26, Try.ntmps26
  go_wp2_with fail
  go_loopw [5, 6] (fun o i wr => ∃ (m : Nat) (out : List Rf), m ≤ N.length ∧ i = .int .i64 m ∧ Hid (rfs L N = (remI L (ixs L N) m).foldl addR out) ∧ out.length + (remI L (ixs L N) m).length ≤ 800 ∧ Hid (wr.ownsRow w.heap.size 25 2 o out.length (rcs out)) ∧ Hid (Below w.heap.size w wr)) (fun _ i _ => N.length - (intOf i).toNat)
  case atStart => exact ⟨0, [], by omega, rfl, Lib.hid rfl, by simp; omega, Lib.hid (World.ownsRow_nil _ _ _ _), Lib.hid (Below.refl _ _)⟩
  case round =>
    obtain ⟨m, out, hm, rfl, HX, hle, HR, HB⟩ := hrel
    by_cases hlt : m < N.length
    · obtain ⟨hix, hil⟩ := fInt_ix hkn hlt
      obtain ⟨b2, o2, rfl, hcs⟩ := HN.out (by intro h; rw [h] at hlt; simp at hlt)
      have n0 := keep1 HB.out (hcs m _ (name_get hlt))
      have HX1 := Lib.hid hix
      have hrs := remI_step (L := L) (I := ixs L N) (m := m) (by rw [ixs_len]; exact hlt)
      rw [ixs_at hlt] at hrs
      rw [hrs, List.length_append] at hle
      have HRs := Lib.hid hrs
      clear hcs hix hrs
      generalize nameAt N m = nm at *
      generalize ixOf L nm = k at *
      obtain ⟨b, off, rfl, hsc⟩ := HC.out (by intro h; rw [h] at hil; simp at hil)
      obtain ⟨-, -, sa, sc, s2, hss⟩ := hsc k hil
      have s2w := keep1 HB.out s2
      have HSS := Lib.hid hss
      have HSw := Lib.hid (HS.out.step HB.out)
      obtain ⟨va, vc, rfl⟩ := row_slice HR.out
      have hkl : (k : Int) < L.length := by omega
      have hs20 : (stN L k).length ≤ 20 := HFs.out _ (scn_mem hil)
      have HS20 := Lib.hid hs20
      clear hsc s2 hss hs20
      go_wp2_with (go_at_call 21; go_must (refine (find_any _ L nm _ HSw.out).mono ?_); rintro e wf ⟨rfl, rfl⟩; rw [HX1.out])
      go_loopw [5, 8] (fun o j wr => ∃ (q : Nat) (out : List Rf), q ≤ (stN L k).length ∧ j = .int .i64 q ∧ Hid (rfs L N = ((stN L k).drop q ++ remI L (ixs L N) (m + 1)).foldl addR out) ∧ out.length + ((stN L k).length - q) + (remI L (ixs L N) (m + 1)).length ≤ 800 ∧ Hid (wr.ownsRow w.heap.size 25 2 o out.length (rcs out)) ∧ Hid (Below w.heap.size w wr)) (fun _ j _ => (stN L k).length - (intOf j).toNat)
      case atStart => exact ⟨0, out, by omega, rfl, Lib.hid (by rw [HX.out, HRs.out, List.drop_zero]), by omega, HR, HB⟩
      case round =>
        obtain ⟨q, out, hq, rfl, HX, hle, HR, HB⟩ := hrel
        obtain ⟨va, vc, rfl⟩ := row_slice HR.out
        by_cases hlt2 : q < (stN L k).length
        · have HRA := Lib.hid (refs_of_row HR.out)
          obtain ⟨sb, cap2, hsv, -, hsx⟩ := HSS.out.step HB.out
          simp only [Value.slice.injEq, true_and] at hsv
          obtain ⟨rfl, rfl⟩ := hsv
          obtain ⟨b3, o3, rfl, hcs⟩ := hsx (by intro h; rw [h] at hlt2; simp at hlt2)
          obtain ⟨e0, e1, -, -, -⟩ := hcs q _ (getD_of hlt2)
          have HD := Lib.hid (drop_get hlt2)
          have HS20' := HS20
          have hol : out.length ≤ 800 := by omega
          have hln : (stN L k).length ≤ 20 := HS20.out
          generalize (stN L k).getD q zS = x at *
          obtain ⟨xd, xa, xn, xt, xu⟩ := x
          simp only at e0 e1
          clear hcs hsx
          have hq2 : (q : Int) < (stN L k).length := by omega
          go_wp2_with fail
          go_loopw [9, 10] (fun kn j w3 => ∃ r n : Nat, r ≤ out.length ∧ j = .int .i64 r ∧ kn = .bool (hasN out xd xa r) ∧ w3 = wr.drewN n) (fun _ j _ => out.length - (intOf j).toNat)
          case atStart => exact ⟨0, 0, by omega, rfl, rfl, (World.drewN_zero _).symm⟩
          case round =>
            obtain ⟨r, n, hr, rfl, rfl, rfl⟩ := hrel
            by_cases hlt3 : r < out.length
            · obtain ⟨ra, rcap, hrv, hrx⟩ := HRA.out
              simp only [Value.slice.injEq, true_and] at hrv
              obtain ⟨rfl, rfl⟩ := hrv
              obtain ⟨b6, o6, rfl, hcs⟩ := hrx (by intro h; rw [h] at hlt3; simp at hlt3)
              obtain ⟨f0, f1⟩ := hcs r _ (rf_get hlt3)
              have HSu := Lib.hid (hasN_succ (d := xd) (a := xa) hlt3)
              have hr2 : (r : Int) < out.length := by omega
              clear hcs hrx
              generalize out.getD r zR = y at *
              obtain ⟨yd, ya⟩ := y
              simp only at f0 f1
              cases hh : hasN out xd xa r
              · cases hd : (yd.toList == xd.toList)
                · have HS1 := Lib.hid (HSu.out.trans (show _ = false by rw [hh]; unfold sE; simp only; rw [hd]; rfl))
                  go_wp2
                  go_quiet (fail)
                  go_wp2
                  go_roundw
                  case rel => exact ⟨r + 1, _, by omega, by go_num, by rw [HS1.out], rfl⟩
                  case measure => simp [intOf]; omega
                · cases ha : (ya.toList == xa.toList)
                  · have HS1 := Lib.hid (HSu.out.trans (show _ = false by rw [hh]; unfold sE; simp only; rw [hd, ha]; rfl))
                    go_wp2
                    go_quiet (fail)
                    go_wp2
                    go_roundw
                    case rel => exact ⟨r + 1, _, by omega, by go_num, by rw [HS1.out], rfl⟩
                    case measure => simp [intOf]; omega
                  · have HS1 := Lib.hid (HSu.out.trans (show _ = true by rw [hh]; unfold sE; simp only; rw [hd, ha]; rfl))
                    go_wp2
                    go_quiet (fail)
                    go_wp2
                    go_roundw
                    case rel => exact ⟨r + 1, _, by omega, by go_num, by rw [HS1.out], rfl⟩
                    case measure => simp [intOf]; omega
              · have HS1 := Lib.hid (HSu.out.trans (show _ = true by rw [hh]; rfl))
                go_wp2
                go_quiet (fail)
                go_wp2
                go_roundw
                case rel => exact ⟨r + 1, _, by omega, by go_num, by rw [HS1.out], rfl⟩
                case measure => simp [intOf]; omega
            · have hrl : r = out.length := by omega
              subst hrl
              cases hh : hasN out xd xa out.length
              · have HX2 := Lib.hid (show rfs L N = ((stN L k).drop (q + 1) ++ remI L (ixs L N) (m + 1)).foldl addR (out ++ [(xd, xa)]) by
                  rw [HX.out, HD.out, List.cons_append, List.foldl_cons]
                  congr 1
                  unfold addR hasR
                  simp only [hh]
                  rfl)
                have HR1 := Lib.hid ((ownsRow_drewN HR.out n).alloc (.cells #[.string xd, .string xa] 25))
                have hbz := HB.out.size
                have HB1 := Lib.hid ((HB.out.trans (below_drewN' _ _ n)).alloc hbz (.cells #[.string xd, .string xa] 25))
                go_wp2_with (at_builtin; refine wpList_append_own _ rfl _ _ 58 rfl w.heap.size 25 i0 _ 2 32 Try.underlying58 hi hz0 hz1 hz2 rfl (by decide) _ _ _ rfl HR1.out ⟨wr.heap.size, 0, none⟩ 1 1 [.string xd, .string xa] rfl rfl (cell_two_new _ _ _ _) (by simp [Value.oneCell']) (by unfold maxLen; omega) (by omega) (by simp; omega) ?_; intro v' w3 hown' hgrow hnil)
                have HR2 := Lib.hid (show w3.ownsRow w.heap.size 25 2 v' (out ++ [(xd, xa)]).length (rcs (out ++ [(xd, xa)])) by rw [rcs_snoc, List.length_append]; exact hown')
                have HB2 := Lib.hid (HB1.out.grown hgrow (by simp; omega) (fun j hj => (HR1.out.lt j hj).1))
                have hle2 : (out ++ [(xd, xa)]).length + ((stN L k).length - (q + 1)) + (remI L (ixs L N) (m + 1)).length ≤ 800 := by simp; omega
                clear hown' hgrow hnil
                go_wp2
                go_roundw
                case rel => exact ⟨q + 1, out ++ [(xd, xa)], by omega, by go_num, HX2, hle2, HR2, HB2⟩
                case measure => simp [intOf]; omega
              · have HX2 := Lib.hid (show rfs L N = ((stN L k).drop (q + 1) ++ remI L (ixs L N) (m + 1)).foldl addR out by
                  rw [HX.out, HD.out, List.cons_append, List.foldl_cons]
                  congr 1
                  unfold addR hasR
                  simp only [hh]
                  rfl)
                have HR1 := Lib.hid (ownsRow_drewN HR.out n)
                have HB1 := Lib.hid (HB.out.trans (below_drewN' _ _ n))
                go_wp2
                go_roundw
                case rel => exact ⟨q + 1, out, by omega, by go_num, HX2, by omega, HR1, HB1⟩
                case measure => simp [intOf]; omega
        · have hkl : q = (stN L k).length := by omega
          subst hkl
          have HX2 := Lib.hid (show rfs L N = (remI L (ixs L N) (m + 1)).foldl addR out by rw [HX.out, List.drop_length, List.nil_append])
          go_wp2
          go_roundw
          case rel => exact ⟨m + 1, out, by omega, by go_num, HX2, by omega, HR, HB⟩
          case measure => simp [intOf]; omega
    · have hml : m = N.length := by omega
      subst hml
      have HX2 := Lib.hid (show out = rfs L N by rw [HX.out, remI_end (by rw [ixs_len]; exact Nat.le_refl _)]; rfl)
      have HRA := Lib.hid (refs_of_row HR.out)
      rw [HX2.out] at HRA
      obtain ⟨va, vc, rfl⟩ := row_slice HR.out
      go_wp2
      go_ret
      exact ⟨_, rfl, HRA.out, HB.out⟩
end Go.Proofs.Ytloilkfloidnjaa
