/- The contract of the reference's 'Overlay'. -/
import Derived.Test.YtloilkfloidnjaaM
import Derived.Test.YtloilkfloidnjaaI
import Derived.Deep.CutRange
namespace Go.Proofs.Ytloilkfloidnjaa
open Go.RowKit Go.WideMaps

abbrev c40 : Obj := .cells #[.string ⟨#[]⟩, .string ⟨#[]⟩, .string ⟨#[]⟩, .int .i64 0, .string ⟨#[]⟩] 40
theorem rfs_len {L : List Scn} {N : List ByteArray} (F : Fit L N) (hkn : kn L N = true) : (rfs L N).length ≤ 400 := by
  have := ovl_len F hkn
  rw [ovl_refs hkn, List.length_map] at this
  exact this
theorem map_take {L : List Scn} {N : List ByteArray} {m : Nat} (h : m < (rfs L N).length) : ((rfs L N).take (m + 1)).map (wval L N) = ((rfs L N).take m).map (wval L N) ++ [wval L N ((rfs L N).getD m zR)] := by
  rw [List.take_succ_eq_append_getElem h, List.map_append]
  simp [List.getD_eq_getElem?_getD, h]
/-- Between the worlds only one block (and what came later) has changed. -/
def KE (w2 : World) (g0 : Nat) (wr : World) : Prop := ∀ k, k < w2.heap.size → k ≠ g0 → wr.heap[k]? = w2.heap[k]?
theorem KE.step {w2 wr X : World} {g0 : Nat} (h : KE w2 g0 wr) (hz : w2.heap.size ≤ wr.heap.size) (hb : Below wr.heap.size wr X) : KE w2 g0 X := fun k hk hne => (hb.block k (by omega)).trans (h k hk hne)
theorem KE.grown {w2 X Y : World} {g0 : Nat} {row : Option Nat} (h : KE w2 g0 X) (hz : w2.heap.size ≤ X.heap.size) (hg : X.grownBy Y row) (hr : ∀ j, row = some j → j = g0 ∨ w2.heap.size ≤ j) : KE w2 g0 Y := fun k hk hne =>
  (hg.block k (by omega) (fun e => by rcases hr k e.symm with h | h <;> omega)).trans (h k hk hne)
theorem KE.cell {w2 wr : World} {g0 : Nat} (h : KE w2 g0 wr) {t : TypeId} (h0 : w2.heap[g0]? = some (.cells #[] t (0, 0))) {p : Addr} {v : Value} (hc : w2.cell? p = some v) : wr.cell? p = some v := by
  have hlt := World.block_lt_of_cell? _ _ hc
  have hne : p.block ≠ g0 := fun e => by
    unfold World.cell? at hc
    rw [e, h0] at hc
    simp at hc
  have := h p.block hlt hne
  unfold World.cell? at hc ⊢
  rw [this]
  exact hc
/-- The row's block is one that may change. -/
def OB (w2 : World) (g0 : Nat) (v : Value) : Prop := ∀ j, v.ownBlock = some j → j = g0 ∨ w2.heap.size ≤ j
/-- Five cells of a block hold a setting. -/
def Five (w : World) (n : Nat) (a b c : ByteArray) (t : Int) (u : ByteArray) : Prop :=
  w.cell? ⟨n, 0, none⟩ = some (.string a) ∧ w.cell? ⟨n, 1, none⟩ = some (.string b) ∧ w.cell? ⟨n, 2, none⟩ = some (.string c) ∧ w.cell? ⟨n, 3, none⟩ = some (.int .i64 t) ∧ w.cell? ⟨n, 4, none⟩ = some (.string u)
theorem five_cells {w : World} {n : Nat} {z0 z1 z2 z3 z4 : Value} (h0 : w.cell? ⟨n, 0, none⟩ = some z0) (h1 : w.cell? ⟨n, 1, none⟩ = some z1) (h2 : w.cell? ⟨n, 2, none⟩ = some z2) (h3 : w.cell? ⟨n, 3, none⟩ = some z3) (h4 : w.cell? ⟨n, 4, none⟩ = some z4) (a b c : ByteArray) (t : Int) (u : ByteArray) :
    Five (((((w.setCell ⟨n, 0, none⟩ (.string a)).setCell ⟨n, 1, none⟩ (.string b)).setCell ⟨n, 2, none⟩ (.string c)).setCell ⟨n, 3, none⟩ (.int .i64 t)).setCell ⟨n, 4, none⟩ (.string u)) n a b c t u := by
  unfold Five
  simp [go_sem, h0, h1, h2, h3, h4]
theorem five_new (w : World) (a b c : ByteArray) (t : Int) (u : ByteArray) : Five (w.alloc (.cells #[.string a, .string b, .string c, .int .i64 t, .string u] 40)) w.heap.size a b c t u :=
  ⟨cell_new' w _ 40 _ rfl 0, cell_new' w _ 40 _ rfl 1, cell_new' w _ 40 _ rfl 2, cell_new' w _ 40 _ rfl 3, cell_new' w _ 40 _ rfl 4⟩
theorem row_cases (v : Value) : v.ownBlock = none ∨ ∃ j, v.ownBlock = some j := by
  cases h : v.ownBlock with
  | none => exact .inl rfl
  | some j => exact .inr ⟨j, rfl⟩
theorem fin_step {w w2 wr X Wn : World} {v v' : Value} {m : Nat} {ys : List Value} (HB : Below w.heap.size w wr) (HKE : KE w2 w.heap.size wr) (hsz : w2.heap.size ≤ wr.heap.size) (HOB : OB w2 w.heap.size v)
    (hrow : wr.ownsRow w.heap.size 40 5 v m ys) (hX : Below wr.heap.size wr X) (hg : X.grownBy Wn v.ownBlock) (hv : v'.ownBlock = v.ownBlock ∨ v'.ownBlock = some X.heap.size) :
    Below w.heap.size w Wn ∧ KE w2 w.heap.size Wn ∧ OB w2 w.heap.size v' ∧ w2.heap.size ≤ Wn.heap.size := by
  have h1 := hX.size
  have h2 := hg.size
  refine ⟨(HB.trans (hX.mono HB.size)).grown hg (Nat.le_trans HB.size h1) (fun j hj => (hrow.lt j hj).1), (HKE.step hsz hX).grown (Nat.le_trans hsz h1) hg HOB, fun j hj => ?_, by omega⟩
  rcases hv with h | h
  · exact HOB j (by rw [← h]; exact hj)
  · rw [h] at hj; cases hj; exact .inr (by omega)
set_option maxRecDepth 100000 in
set_option maxHeartbeats 8000000 in
theorem roverlay_any (v vn : Value) (L : List Scn) (N : List ByteArray) (w : World) (h : ScnsAt w v L) (hn : NamesAt w vn N) (F : Fit L N) : Calls Try.prog 14 #[v, vn] w (OvPost L N w) := by
  obtain ⟨i0, hi, hz0, hz1, hz2⟩ := info_parts info40
  obtain ⟨aa, cap, rfl, hc0⟩ := h.open
  have HN := Lib.hid hn
  obtain ⟨an, capn, rfl, -, -⟩ := hn
  have HS := Lib.hid h
  have HF := Lib.hid F
  have HC := Lib.hid hc0
  clear h hc0 F
  cases hkn : kn L N
  · have HK := Lib.hid hkn
    go_enter Try.func14, Try.ntmps14
    go_wp2_with (go_at_call 20; go_must (refine (known_any _ (.slice an N.length capn) L N _ HS.out HN.out).mono ?_); rintro e w1 ⟨rfl, rfl⟩; rw [HK.out])
    exact bodyPost_ret (v := .tuple #[.slice none 0 0, .int .i64 8]) (by simp [results, Try.results14, go_sem]) rfl ⟨.inl ⟨HK.out, rfl⟩, Below.refl _ _⟩
  · have HK := Lib.hid hkn
    have hrl := rfs_len HF.out hkn
    go_enter Try.func14, Try.ntmps14
    go_wp2_with (first
      | (go_at_call 20; go_must (refine (known_any _ (.slice an N.length capn) L N _ HS.out HN.out).mono ?_); rintro e w1 ⟨rfl, rfl⟩; rw [HK.out])
      | (go_at_call 26; go_must (refine (refs_any _ (.slice an N.length capn) L N _ (HS.out.step ((Below.refl _ _).alloc (Nat.le_refl _) _)) (HN.out.step ((Below.refl _ _).alloc (Nat.le_refl _) _)) HF.out HK.out).mono ?_); rintro e w2 ⟨ur, rfl, hra, hb2⟩; obtain ⟨ra, rcap, rfl, hrx⟩ := hra))
    have hz2w := hb2.size
    simp at hz2w
    have HB0 := Lib.hid (((Below.refl w.heap.size w).alloc (Nat.le_refl _) (.cells #[] 40)).trans (hb2.mono (by simp)))
    have HRow0 := Lib.hid (World.ownsRow.kept (World.ownsRow_lit (base := w.heap.size) (size := 5) (e := 40) w #[] 0 (Nat.le_refl _) (by unfold maxLen; omega) rfl) (grown_of_below hb2) (.inr (by simp [Value.ownBlock])))
    have HG0 := Lib.hid (show w2.heap[w.heap.size]? = some (.cells #[] 40 (0, 0)) from (hb2.block w.heap.size (by simp)).trans (World.alloc_heap_new w _))
    have HR := Lib.hid hrx
    clear hb2 hrx
    go_loopw [6, 8] (fun o i wr => ∃ m : Nat, m ≤ (rfs L N).length ∧ i = .int .i64 m ∧ Hid (wr.ownsRow w.heap.size 40 5 o m (scs (((rfs L N).take m).map (wval L N)))) ∧ Hid (Below w.heap.size w wr) ∧ Hid (KE w2 w.heap.size wr) ∧ Hid (OB w2 w.heap.size o) ∧ w2.heap.size ≤ wr.heap.size) (fun _ i _ => (rfs L N).length - (intOf i).toNat)
    case atStart => exact ⟨0, by omega, rfl, HRow0, HB0, Lib.hid (fun _ _ _ => rfl), Lib.hid (fun j hj => by simp [Value.ownBlock] at hj; exact .inl hj.symm), Nat.le_refl _⟩
    case round =>
      obtain ⟨m, hm, rfl, HRow, HB, HKE, HOB, hsz⟩ := hrel
      obtain ⟨va, vc, rfl⟩ := row_slice HRow.out
      by_cases hlt : m < (rfs L N).length
      · obtain ⟨b1, o1, rfl, hcs⟩ := HR.out (by intro h; rw [h] at hlt; simp at hlt)
        obtain ⟨r0', r1'⟩ := hcs m _ (rf_get hlt)
        have r0 := HKE.out.cell HG0.out r0'
        have r1 := HKE.out.cell HG0.out r1'
        obtain ⟨q, j, hrw, hq, -, hlj, hwv⟩ := rfs_win HK.out (List.mem_of_getElem? (rf_get hlt))
        have HMT := Lib.hid (map_take hlt)
        clear hcs r0' r1'
        rw [hwv] at HMT
        generalize (rfs L N).getD m zR = r at *
        obtain ⟨rd, ra'⟩ := r
        simp only at r0 r1 hrw hlj
        obtain ⟨b, off, rfl, hsc⟩ := HC.out (by intro h; rw [h] at hq; simp at hq)
        obtain ⟨s0', s1', sa, sc, s2', hss⟩ := hsc q hq
        have s0 := keep1 HB.out s0'
        have s1 := keep1 HB.out s1'
        have s2 := keep1 HB.out s2'
        have HRW : Hid (∀ W, Below wr.heap.size wr W → Calls Try.prog 17 #[.slice (some ⟨b, off, none⟩) L.length cap, .slice an N.length capn, .agg #[.string rd, .string ra']] W fun e W' => e = .returned (.int .i64 (q : Int)) ∧ Below W.heap.size W W') := Lib.hid (fun W hW => by
          rw [← hrw]
          have hb := HB.out.trans (hW.mono HB.out.size)
          exact rwins_any _ _ L N rd ra' W (HS.out.step hb) (HN.out.step hb) HF.out)
        obtain ⟨yd, ya, yn, yt, yu, hy⟩ : ∃ yd ya yn yt yu, (stN L q).getD j zS = ⟨yd, ya, yn, yt, yu⟩ := ⟨_, _, _, _, _, rfl⟩
        rw [hy] at HMT
        have HLast : Hid (∀ W, Below wr.heap.size wr W → Calls Try.prog 18 #[.agg #[.string (L.getD q zN).name, .int .i64 (lyr L q), .slice sa (stN L q).length sc], .agg #[.string rd, .string ra']] W fun e W' => e = .returned (.tuple #[.agg #[.string yd, .string ya, .string yn, .int .i64 yt, .string yu], .bool true]) ∧ Below W.heap.size W W') := Lib.hid (fun W hW => by
          have hb := HB.out.trans (hW.mono HB.out.size)
          have := last_any (L.getD q zN).name (lyr L q) (.slice sa (stN L q).length sc) (stN L q) rd ra' W (hss.step hb)
          unfold LastPost at this
          rw [hlj] at this
          simp only [sAt, hy, Option.isSome_some] at this
          exact this)
        have hql : (q : Int) < L.length := by omega
        clear hsc s0' s1' s2' hss hy hwv hlj hrw
        generalize (stN L q).length = ln at *
        generalize (L.getD q zN).name = qn at *
        generalize lyr L q = ql at *
        have hbA : Below wr.heap.size wr (wr.alloc c40).drew := ((Below.refl _ _).alloc (Nat.le_refl _) _).trans (below_drew _ _)
        have HbA := Lib.hid hbA
        have rA0 := keep1 hbA r0
        have rA1 := keep1 hbA r1
        have HA : Hid (∀ j, (wr.alloc c40).drew.cell? ⟨wr.heap.size, j, none⟩ = (#[.string ⟨#[]⟩, .string ⟨#[]⟩, .string ⟨#[]⟩, .int .i64 0, .string ⟨#[]⟩] : Array Value)[j]? ∧ (wr.alloc c40).drew.frozen? ⟨wr.heap.size, j, none⟩ = false) :=
          Lib.hid fun j => ⟨cell_new' wr _ 40 _ rfl j, frozen_new wr _ 40 j⟩
        clear hbA
        have hmr : (m : Int) < (rfs L N).length := by omega
        go_upto_region 8 with fail
        go_cut [9, 10] from 19 to 46 (fun p q wc => ∃ n : Nat, p = .pointer (some ⟨n, 0, none⟩) ∧ q = .bool true ∧ Five wc n yd ya yn yt yu ∧ Below wr.heap.size wr wc)
        case first =>
         go_region_law (first
           | (go_simp; go_at_call 17; refine (HRW.out _ (by first | exact below_drew _ _ | exact HbA.out)).mono ?_; rintro e w3 ⟨rfl, hb3⟩
              have HB3 : Hid (Below wr.heap.size wr w3) := Lib.hid (by first | exact (below_drew _ _).trans (hb3.mono (by simp)) | exact HbA.out.trans (hb3.mono (by simp)))
              have hz3 := HB3.out.size
              have HB3c : Hid (Below wr.heap.size wr (w3.alloc c40)) := Lib.hid (HB3.out.alloc hz3 _)
              have t0 := keep1 HB3.out r0; have t1 := keep1 HB3.out r1; have p0 := keep1 HB3.out s0; have p1 := keep1 HB3.out s1; have p2 := keep1 HB3.out s2
              have tc0 := keep1 HB3c.out r0; have tc1 := keep1 HB3c.out r1; have pc0 := keep1 HB3c.out s0; have pc1 := keep1 HB3c.out s1; have pc2 := keep1 HB3c.out s2
              (first | (have z0 := keep1 hb3 (HA.out 0).1; have z1 := keep1 hb3 (HA.out 1).1; have z2 := keep1 hb3 (HA.out 2).1; have z3 := keep1 hb3 (HA.out 3).1; have z4 := keep1 hb3 (HA.out 4).1; have y0 := keepf hb3 (HA.out 0).1 (HA.out 0).2; have y1 := keepf hb3 (HA.out 1).1 (HA.out 1).2; have y2 := keepf hb3 (HA.out 2).1 (HA.out 2).2; have y3 := keepf hb3 (HA.out 3).1 (HA.out 3).2; have y4 := keepf hb3 (HA.out 4).1 (HA.out 4).2) | skip)
              clear hb3)
           | (go_simp; go_at_call 18; refine (HLast.out _ (by first | with_reducible exact HB3.out | with_reducible exact HB3c.out)).mono ?_; rintro e w4 ⟨rfl, hb4⟩
              have HB4 : Hid (Below wr.heap.size wr w4) := Lib.hid (by first | with_reducible exact HB3.out.trans (hb4.mono hz3) | with_reducible exact HB3c.out.trans (hb4.mono (Nat.le_trans hz3 (by simp))))
              (first | (have x0 := keep1 hb4 z0; have x1 := keep1 hb4 z1; have x2 := keep1 hb4 z2; have x3 := keep1 hb4 z3; have x4 := keep1 hb4 z4; have v0 := keepf hb4 z0 y0; have v1 := keepf hb4 z1 y1; have v2 := keepf hb4 z2 y2; have v3 := keepf hb4 z3 y3; have v4 := keepf hb4 z4 y4) | (have x0 := keep1 hb4 (cell_new' w3 #[.string ⟨#[]⟩, .string ⟨#[]⟩, .string ⟨#[]⟩, .int .i64 0, .string ⟨#[]⟩] 40 _ rfl 0); have x1 := keep1 hb4 (cell_new' w3 #[.string ⟨#[]⟩, .string ⟨#[]⟩, .string ⟨#[]⟩, .int .i64 0, .string ⟨#[]⟩] 40 _ rfl 1); have x2 := keep1 hb4 (cell_new' w3 #[.string ⟨#[]⟩, .string ⟨#[]⟩, .string ⟨#[]⟩, .int .i64 0, .string ⟨#[]⟩] 40 _ rfl 2); have x3 := keep1 hb4 (cell_new' w3 #[.string ⟨#[]⟩, .string ⟨#[]⟩, .string ⟨#[]⟩, .int .i64 0, .string ⟨#[]⟩] 40 _ rfl 3); have x4 := keep1 hb4 (cell_new' w3 #[.string ⟨#[]⟩, .string ⟨#[]⟩, .string ⟨#[]⟩, .int .i64 0, .string ⟨#[]⟩] 40 _ rfl 4); have v0 := keepf hb4 (cell_new' w3 #[.string ⟨#[]⟩, .string ⟨#[]⟩, .string ⟨#[]⟩, .int .i64 0, .string ⟨#[]⟩] 40 _ rfl 0) (frozen_new w3 #[.string ⟨#[]⟩, .string ⟨#[]⟩, .string ⟨#[]⟩, .int .i64 0, .string ⟨#[]⟩] 40 0); have v1 := keepf hb4 (cell_new' w3 #[.string ⟨#[]⟩, .string ⟨#[]⟩, .string ⟨#[]⟩, .int .i64 0, .string ⟨#[]⟩] 40 _ rfl 1) (frozen_new w3 #[.string ⟨#[]⟩, .string ⟨#[]⟩, .string ⟨#[]⟩, .int .i64 0, .string ⟨#[]⟩] 40 1); have v2 := keepf hb4 (cell_new' w3 #[.string ⟨#[]⟩, .string ⟨#[]⟩, .string ⟨#[]⟩, .int .i64 0, .string ⟨#[]⟩] 40 _ rfl 2) (frozen_new w3 #[.string ⟨#[]⟩, .string ⟨#[]⟩, .string ⟨#[]⟩, .int .i64 0, .string ⟨#[]⟩] 40 2); have v3 := keepf hb4 (cell_new' w3 #[.string ⟨#[]⟩, .string ⟨#[]⟩, .string ⟨#[]⟩, .int .i64 0, .string ⟨#[]⟩] 40 _ rfl 3) (frozen_new w3 #[.string ⟨#[]⟩, .string ⟨#[]⟩, .string ⟨#[]⟩, .int .i64 0, .string ⟨#[]⟩] 40 3); have v4 := keepf hb4 (cell_new' w3 #[.string ⟨#[]⟩, .string ⟨#[]⟩, .string ⟨#[]⟩, .int .i64 0, .string ⟨#[]⟩] 40 _ rfl 4) (frozen_new w3 #[.string ⟨#[]⟩, .string ⟨#[]⟩, .string ⟨#[]⟩, .int .i64 0, .string ⟨#[]⟩] 40 4)) | skip)
              clear hb4))
         all_goals
          have hz4 := HB4.out.size
          go_wp2_with fail
          go_meet
          first
            | with_reducible exact ⟨_, rfl, rfl, five_cells x0 x1 x2 x3 x4 _ _ _ _ _, five_set HB4.out (Nat.le_refl _) _ _ _ _ _⟩
            | with_reducible exact ⟨_, rfl, rfl, five_cells x0 x1 x2 x3 x4 _ _ _ _ _, five_set HB4.out hz3 _ _ _ _ _⟩
            | exact ⟨_, rfl, rfl, five_new _ _ _ _ _ _, HB4.out.alloc hz4 _⟩
        case rest =>
          obtain ⟨n, rfl, rfl, ⟨x0, x1, x2, x3, x4⟩, hBX⟩ := hcut
          have HBX := Lib.hid hBX
          have hzx := hBX.size
          have hm400 : m < 400 := by omega
          have hsw := HB.out.size
          have HROW := Lib.hid ((HRow.out.kept (grown_of_below hBX) (by rcases row_cases (.slice va m vc) with h | ⟨j, h⟩ <;> rw [h] <;> simp)).alloc (.cells #[.string yd, .string ya, .string yn, .int .i64 yt, .string yu] 40))
          clear hBX
          go_wp2_with (at_builtin; refine wpList_append_own_at _ rfl _ _ 28 rfl w.heap.size 40 i0 _ 5 72 Try.underlying28 hi hz0 hz1 hz2 rfl (by decide) _ _ _ rfl HROW.out ⟨_, 0, none⟩ 1 1 [.string yd, .string ya, .string yn, .int .i64 yt, .string yu] rfl rfl (cell_five_new _ _ _ _ _ _ _) (by simp [Value.oneCell']) (by unfold maxLen; omega) (by omega) (by simp; omega) ?_; intro v' wn hown' hgrow hnil hob)
          have hfs := fin_step HB.out HKE.out hsz HOB.out HRow.out (HBX.out.alloc hzx _) hgrow hob
          obtain ⟨g1, g2, g3, g4⟩ := hfs
          have G1 := Lib.hid g1
          have G2 := Lib.hid g2
          have G3 := Lib.hid g3
          have HR2 := Lib.hid (show wn.ownsRow w.heap.size 40 5 v' (m + 1) (scs (((rfs L N).take (m + 1)).map (wval L N))) by rw [HMT.out, scs_snoc]; exact hown')
          clear hown' hgrow hnil hob g1 g2 g3
          go_wp2
          go_roundw
          case rel => exact ⟨m + 1, by omega, by go_num, HR2, G1, G2, G3, g4⟩
          case measure => simp [intOf]; omega
      · have hml : m = (rfs L N).length := by omega
        subst hml
        have HSA := Lib.hid (show SettsAt wr (.slice va (rfs L N).length vc) (ovl L N) by
          have h1 := HRow.out
          rw [List.take_length] at h1
          have h2 := ovl_refs HK.out
          have h3 : ((rfs L N).map (wval L N)).length = (rfs L N).length := by simp
          rw [h2]
          refine setts_of_row (base := w.heap.size) (by rw [h3]; unfold maxLen; omega) ?_
          rw [h3]; exact h1)
        go_wp2
        exact bodyPost_ret (v := .tuple #[.slice va (rfs L N).length vc, .int .i64 0]) (by simp [results, Try.results14, go_sem]) rfl ⟨.inr ⟨HK.out, _, rfl, HSA.out⟩, HB.out⟩
end Go.Proofs.Ytloilkfloidnjaa
