/- Beliefs: two lists are put together. -/
import Derived.Test.YtigpopemllamdaaAj
import Derived.Lib.AppendZerosOnto
import Derived.Lib.SliceRun
import Derived.Laws.OwnMore
import Derived.Maps.AppendAt
namespace Go.Proofs.Ytigpopemllamdaa
open Go.RowKit Go.Lib

/-- An append of a slice that may be nil, as an equation. -/
theorem run_app_gen {t ty e : TypeId} {i : TypeInfo} {z : Value} {size bytes : Nat} (ht : Try.prog.underlying t = some (.slice e)) (hi : Try.prog.info? e = some i) (hz : i.zero = some z) (hsize : i.size = size) (hby : i.bytes = bytes) (hzs : z.cells.size = size) (hsz : 0 < size)
    (w : World) (base n : Nat) (v : Value) (xs : List Value) (hown : w.ownsRow base e size v n xs) (a : Option Addr) (m cap : Nat) (news : List Value) (hl : news.length = m * size) (hc : ∀ ad, a = some ad → ∀ j u, news[j]? = some u → w.cell? (ad.add j) = some u) (hn : a = none → m = 0)
    (h1 : ∀ u ∈ news, u.oneCell' = true) (h63 : n + m ≤ maxLen) (hbytes : (n + m) * bytes ≤ 140737488355328) (hbase : base ≤ w.heap.size) :
    ∃ v' w', (Builtin.append_ #[t, t] ty #[v, .slice a m cap]).run Try.prog w = .ok v' w' ∧ w'.ownsRow base e size v' (n + m) (xs ++ news) ∧ w.grownBy w' v.ownBlock := by
  cases a with
  | none =>
    have hm := hn rfl
    subst hm
    have hnil : news = [] := by simpa using hl
    subst hnil
    have hg : w.grownBy w v.ownBlock := ⟨rfl, rfl, rfl, Nat.le_refl _, fun _ _ _ => rfl⟩
    refine ⟨v, w, ?_, by simpa using hown, hg⟩
    rcases hown.2 with ⟨rfl, rfl⟩ | ⟨g, c, cur, rfl, _, _, hnc, _⟩
    · simp [Builtin.append_, run_underlying ht, sizeOf, typeInfo, hi, Builtin.lenOf, Builtin.firstCells]
    · simp [Builtin.append_, run_underlying ht, sizeOf, typeInfo, hi, Builtin.lenOf, Builtin.firstCells, hnc, storeCells]
  | some ad =>
    obtain ⟨v', w', q1, q2, q3, -, -⟩ := run_append_own_at (P := Try.prog) w base t ty e i z size bytes ht hi hz hsize hby hzs hsz v n xs hown ad m cap news hl (hc ad rfl) h1 h63 hbytes hbase
    exact ⟨v', w', q1, q2, q3⟩
/-- A list behind a slice is appended to a row of one's own. -/
theorem app_list (w : World) (B : Nat) (u : Value) (L M : List Od) (hu : w.ownsRow B 27 4 u L.length (ocs L)) (a : Option Addr) (c : Nat) (h : OdsAt w (.slice a M.length c) M) (h9 : L.length + M.length ≤ 100000) (hB : B ≤ w.heap.size) (ty : TypeId) :
    ∃ v' w', (Builtin.append_ #[23, 23] ty #[u, .slice a M.length c]).run Try.prog w = .ok v' w' ∧ w'.ownsRow B 27 4 v' (L ++ M).length (ocs (L ++ M)) ∧ Below B w w' := by
  obtain ⟨i0, hi, hz0, hz1, hz2⟩ := info_parts od_info
  obtain ⟨v', w', q1, q2, q3⟩ := run_app_gen (ty := ty) Try.underlying23 hi hz0 hz1 hz2 rfl (by decide) w B L.length u (ocs L) hu a M.length c (ocs M) (ocs_len M) (fun ad e => od_cells h ad e) (fun e => by
    obtain ⟨a2, cap, hv, -, -, hc⟩ := h
    have ha : a = a2 := by simp at hv; exact hv.1
    cases M with
    | nil => rfl
    | cons x M =>
      obtain ⟨b, o, e2, -⟩ := hc (by simp)
      rw [← ha, e] at e2
      cases e2) (ocs_one' M) (by unfold maxLen; omega) (by omega) hB
  refine ⟨v', w', q1, by rw [List.length_append, ocs_app]; exact q2, (Below.refl B w).grown q3 hB fun g e => ?_⟩
  rcases hu.2 with ⟨rfl, -⟩ | ⟨g', cap, cur, rfl, h1, -⟩
  · cases e
  · cases e; exact h1

set_option maxRecDepth 100000 in
set_option maxHeartbeats 8000000 in
theorem grow_nil (n : Nat) (h9 : n ≤ 1000) (w : World) :
    Calls Try.prog 70 #[.slice none 0 0, .int .i64 n] w fun e w' => ∃ u, e = .returned u ∧ w'.ownsRow w.heap.size 27 4 u 0 [] ∧ Below w.heap.size w w' := by
  by_cases h0 : n = 0
  · subst h0
    go_enter Try.func70, Try.ntmps70
    go_wp2
    go_ret
    exact ⟨_, rfl, World.ownsRow_nil _ _ _ _, by first | exact Below.refl _ _ | exact below_drew _ _⟩
  · obtain ⟨i0, hi, hz0, hz1, hz2⟩ := info_parts od_info
    have h1 : ¬ ((n : Int) < 0) := by omega
    have h4 : (n : Int) > 0 := by omega
    have hrz : ∀ ty, (Builtin.append_ #[23, 3] ty #[.slice none 0 0, .int .i64 (n : Int)]).run Try.prog w =
        .ok (.slice (some ⟨w.heap.size, 0, none⟩) n (grownCap w n 0 27)) (w.drew.alloc (.cells (([] : List Value).toArray ++ Builtin.zeroCells (Value.agg #[.int .i64 0, .int .i64 0, .int .i64 0, .int .i64 0]).cells n ++ Builtin.zeroCells (Value.agg #[.int .i64 0, .int .i64 0, .int .i64 0, .int .i64 0]).cells (grownCap w n 0 27 - n)) 27)) := fun ty => by
      have h := Lib.run_append_grow_zeros (P := Try.prog) w 23 3 ty 27 i0 _ .i64 .i64 Try.underlying23 Try.underlying3 hi hz0 none 0 0 [] (run_firstCells_none w.drew i0.size 0 0 0) n (by omega) (by omega) (by omega) (by omega)
        (by rw [hz2]; omega)
        (by rw [hz2, Nat.zero_add]; exact growslice_fits (by omega) (by omega))
      rw [Nat.zero_add] at h
      exact h
    have hGn : n ≤ grownCap w n 0 27 := grownCap_ge w _ _ _
    have hGm := grownCap_le_maxLen w n 0 27 (by unfold maxLen; omega)
    obtain ⟨G, hG⟩ : ∃ G, G = grownCap w n 0 27 := ⟨_, rfl⟩
    rw [← hG] at hrz hGn hGm
    have HROW := Lib.hid (show (w.drew.alloc (.cells (([] : List Value).toArray ++ Builtin.zeroCells (Value.agg #[.int .i64 0, .int .i64 0, .int .i64 0, .int .i64 0]).cells n ++ Builtin.zeroCells (Value.agg #[.int .i64 0, .int .i64 0, .int .i64 0, .int .i64 0]).cells (G - n)) 27)).ownsRow w.heap.size 27 4 (.slice (some ⟨w.heap.size, 0, none⟩) 0 G) 0 [] from
      ⟨rfl, .inr ⟨w.heap.size, G, _, rfl, Nat.le_refl _, heap_alloc_new _ _, by omega, hGm, by have c4 : (Value.agg #[.int .i64 0, .int .i64 0, .int .i64 0, .int .i64 0]).cells.size = 4 := rfl; simp [Builtin.zeroCells, c4]; omega, rfl⟩⟩)
    have HBEL := Lib.hid ((below_drew w.heap.size w).alloc (Nat.le_refl _) (.cells (([] : List Value).toArray ++ Builtin.zeroCells (Value.agg #[.int .i64 0, .int .i64 0, .int .i64 0, .int .i64 0]).cells n ++ Builtin.zeroCells (Value.agg #[.int .i64 0, .int .i64 0, .int .i64 0, .int .i64 0]).cells (G - n)) 27))
    generalize w.drew.alloc (.cells (([] : List Value).toArray ++ Builtin.zeroCells (Value.agg #[.int .i64 0, .int .i64 0, .int .i64 0, .int .i64 0]).cells n ++ Builtin.zeroCells (Value.agg #[.int .i64 0, .int .i64 0, .int .i64 0, .int .i64 0]).cells (G - n)) 27) = W' at hrz HROW HBEL
    unfold maxLen at hGm
    clear hG hi hz0 hz1 hz2
    have HRZ := Lib.hid hrz
    clear hrz
    go_enter Try.func70, Try.ntmps70
    go_wp2_with (at_builtin; refine Lib.wpList_append_run _ rfl _ _ _ _ rfl _ _ rfl rfl _ _ (HRZ.out _) ?_)
    all_goals go_ret
    all_goals exact ⟨_, rfl, HROW.out, HBEL.out⟩
theorem grow_n (n : Nat) (z : Int) (hz : z = (n : Int)) (h9 : n ≤ 1000) (w : World) :
    Calls Try.prog 70 #[.slice none 0 0, .int .i64 z] w fun e w' => ∃ u, e = .returned u ∧ w'.ownsRow w.heap.size 27 4 u 0 [] ∧ Below w.heap.size w w' := by
  subst hz
  exact grow_nil n h9 w
/-- Two lists behind slices behind a slice. -/
def Two (w : World) (b o : Nat) (v1 v2 : Value) : Prop := w.cell? ⟨b, o, none⟩ = some v1 ∧ w.cell? ⟨b, o + 1, none⟩ = some v2
theorem Two.step {w w1 : World} {b o : Nat} {v1 v2 : Value} (h : Two w b o v1 v2) (hb : Below w.heap.size w w1) : Two w1 b o v1 v2 := ⟨keep1 hb h.1, keep1 hb h.2⟩
def sm (m1 m2 : Nat) : Nat → Int
  | 0 => 0
  | 1 => m1
  | _ => ((m1 + m2 : Nat) : Int)
def cc (L M : List Od) : Nat → List Od
  | 0 => []
  | 1 => L
  | _ => L ++ M
set_option maxRecDepth 100000 in
set_option maxHeartbeats 8000000 in
theorem concat_any (b o : Nat) (a1 a2 : Option Addr) (c1 c2 : Nat) (L M : List Od) (w : World) (h : Two w b o (.slice a1 L.length c1) (.slice a2 M.length c2)) (h1 : OdsAt w (.slice a1 L.length c1) L) (h2 : OdsAt w (.slice a2 M.length c2) M) (hm1 : L.length ≤ 400) (hm2 : M.length ≤ 400) :
    Calls Try.prog 63 #[.slice (some ⟨b, o, none⟩) 2 2] w fun e w' => ∃ u, e = .returned u ∧ w'.ownsRow w.heap.size 27 4 u (L ++ M).length (ocs (L ++ M)) ∧ Below w.heap.size w w' := by
  have HT := Lib.hid h
  have H1 := Lib.hid h1
  have H2 := Lib.hid h2
  have HM := Lib.hid (And.intro hm1 hm2)
  have t0 := h.1
  have t1 := h.2
  have tz : b < w.heap.size := World.block_lt_of_cell? _ _ t0
  clear h h1 h2
  go_enter Try.func63, Try.ntmps63
  go_wp2_with fail
  go_loopw [3, 11] (fun sv iv wr => ∃ k : Nat, k ≤ 2 ∧ iv = .int .i64 k ∧ sv = .int .i64 (sm L.length M.length k) ∧ Hid (Below w.heap.size w wr)) (fun _ iv _ => 2 - (intOf iv).toNat)
  case atStart => exact ⟨0, by omega, rfl, rfl, Lib.hid (Below.refl _ _)⟩
  case round =>
    obtain ⟨k, hk, rfl, rfl, HB⟩ := hrel
    have hT := HT.out.step HB.out
    have t0 := hT.1
    have t1 := hT.2
    have tz : b < wr.heap.size := World.block_lt_of_cell? _ _ t0
    clear hT
    match k, hk with
    | 0, _ =>
      simp only [sm]
      go_wp2
      go_roundw
      case rel => exact ⟨1, by omega, by go_num, by simp, HB⟩
      case measure => simp [intOf]
    | 1, _ =>
      simp only [sm]
      have e1 : wrap64 ((L.length : Int) + (M.length : Int)) = (L.length : Int) + (M.length : Int) := IntWalk.wrap64_in _ (by omega)
      have e2 : ¬ ((L.length : Int) + (M.length : Int) < 0) := by omega
      go_wp2
      go_roundw
      case rel => exact ⟨2, by omega, by go_num, by simp, HB⟩
      case measure => simp [intOf]
    | 2, _ =>
      simp only [sm]
      go_wp2_with fail
      refine (grow_n (L.length + M.length) _ (by omega) (by omega) _).mono ?_
      rintro e w2 ⟨u, rfl, hu, b2⟩
      have HU := Lib.hid (row_base hu HB.out.size)
      have HB2 := Lib.hid (keep2 b2 HB.out)
      have hT := HT.out.step HB2.out
      have t0 := hT.1
      have t1 := hT.2
      have tz : b < w2.heap.size := World.block_lt_of_cell? _ _ t0
      clear hu b2 hT
      go_wp2_with fail
      go_loopw [6, 27] (fun rv iv wr => ∃ k : Nat, k ≤ 2 ∧ iv = .int .i64 k ∧ Hid (wr.ownsRow w.heap.size 27 4 rv (cc L M k).length (ocs (cc L M k))) ∧ Hid (Below w.heap.size w wr)) (fun _ iv _ => 2 - (intOf iv).toNat)
      case atStart => exact ⟨0, by omega, rfl, HU, HB2⟩
      case round =>
        obtain ⟨k2, hk2, rfl, HR, HB3⟩ := hrel
        have hT := HT.out.step HB3.out
        have t0 := hT.1
        have t1 := hT.2
        have tz : b < wr.heap.size := World.block_lt_of_cell? _ _ t0
        clear hT
        match k2, hk2 with
        | 0, _ =>
          have hr : wr.ownsRow w.heap.size 27 4 u6 (([] : List Od)).length (ocs (([] : List Od))) := HR.out
          obtain ⟨v', w5, hq, ho, hb⟩ := app_list wr w.heap.size u6 (([] : List Od)) L hr a1 c1 (H1.out.step HB3.out) (by first | omega | (simp; omega)) HB3.out.size 23
          have HQ := Lib.hid hq
          have HO := Lib.hid (show w5.ownsRow w.heap.size 27 4 v' (cc L M 1).length (ocs (cc L M 1)) from ho)
          have HB5 := Lib.hid (HB3.out.trans hb)
          clear hr hq ho hb
          go_wp2_with (at_builtin; refine Lib.wpList_append_run _ rfl _ _ _ _ rfl _ _ rfl rfl _ _ HQ.out ?_)
          go_roundw
          case rel => exact ⟨1, by omega, by go_num, HO, HB5⟩
          case measure => simp [intOf]
        | 1, _ =>
          have hr : wr.ownsRow w.heap.size 27 4 u6 (L).length (ocs (L)) := HR.out
          obtain ⟨v', w5, hq, ho, hb⟩ := app_list wr w.heap.size u6 (L) M hr a2 c2 (H2.out.step HB3.out) (by first | omega | (simp; omega)) HB3.out.size 23
          have HQ := Lib.hid hq
          have HO := Lib.hid (show w5.ownsRow w.heap.size 27 4 v' (cc L M 2).length (ocs (cc L M 2)) from ho)
          have HB5 := Lib.hid (HB3.out.trans hb)
          clear hr hq ho hb
          go_wp2_with (at_builtin; refine Lib.wpList_append_run _ rfl _ _ _ _ rfl _ _ rfl rfl _ _ HQ.out ?_)
          go_roundw
          case rel => exact ⟨2, by omega, by go_num, HO, HB5⟩
          case measure => simp [intOf]
        | 2, _ =>
          go_wp2
          go_ret
          exact ⟨_, rfl, HR.out, HB3.out⟩
end Go.Proofs.Ytigpopemllamdaa
