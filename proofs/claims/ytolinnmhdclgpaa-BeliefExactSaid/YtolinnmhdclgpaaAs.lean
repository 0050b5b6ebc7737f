import Derived.Test.YtolinnmhdclgpaaAj
import Derived.Laws.OwnMore
import Derived.Lib.AppendZerosOnto
import Derived.Lib.SliceRun
import Derived.Maps.AppendAt
namespace Go.Proofs.Ytolinnmhdclgpaa
open Go.RowKit Go.Lib

/-- An append of a slice that may be nil, as an equation. -/
theorem run_app_gen {t ty e : TypeId} {i : TypeInfo} {z : Value} {size bytes : Nat} (ht : Try.prog.underlying t = some (.slice e)) (hi : Try.prog.info? e = some i) (hz : i.zero = some z) (hsize : i.size = size) (hby : i.bytes = bytes) (hzs : z.cells.size = size) (hsz : 0 < size)
    (w : World) (base n : Nat) (v : Value) (xs : List Value) (hown : w.ownsRow base e size v n xs) (a : Option Addr) (m cap : Nat) (news : List Value) (hl : news.length = m * size) (hc : ∀ ad, a = some ad → ∀ j u, news[j]? = some u → w.cell? (ad.add j) = some u) (hn : a = none → m = 0)
    (h1 : ∀ u ∈ news, u.oneCell' = true) (h63 : n + m ≤ maxLen) (hbytes : (n + m) * bytes ≤ 140737488355328) (hbase : base ≤ w.heap.size) :
    ∃ v' w', (Builtin.append_ #[t, t] ty #[v, .slice a m cap]).run Try.prog w = .ok v' w' ∧ w'.ownsRow base e size v' (n + m) (xs ++ news) ∧ w.grownBy w' v.ownBlock := by
  cases a with
  | none =>
    have hm := hn rfl
    subst hm
    have hnil : news = [] := by simpa using hl
    subst hnil
    have hg : w.grownBy w v.ownBlock := ⟨rfl, rfl, rfl, Nat.le_refl _, fun _ _ _ => rfl⟩
    refine ⟨v, w, ?_, by simpa using hown, hg⟩
    rcases hown.2 with ⟨rfl, rfl⟩ | ⟨g, c, cur, rfl, _, _, hnc, _⟩
    · simp [Builtin.append_, run_underlying ht, sizeOf, typeInfo, hi, Builtin.lenOf, Builtin.firstCells]
    · simp [Builtin.append_, run_underlying ht, sizeOf, typeInfo, hi, Builtin.lenOf, Builtin.firstCells, hnc, storeCells]
  | some ad =>
    obtain ⟨v', w', q1, q2, q3, -, -⟩ := run_append_own_at (P := Try.prog) w base t ty e i z size bytes ht hi hz hsize hby hzs hsz v n xs hown ad m cap news hl (hc ad rfl) h1 h63 hbytes hbase
    exact ⟨v', w', q1, q2, q3⟩
/-- A list behind a slice is appended to a row of one's own. -/
theorem app_list (w : World) (B : Nat) (u : Value) (L M : List Od) (hu : w.ownsRow B 27 4 u L.length (ocs L)) (a : Option Addr) (c : Nat) (h : OdsAt w (.slice a M.length c) M) (h9 : L.length + M.length ≤ 100000) (hB : B ≤ w.heap.size) (ty : TypeId) :
    ∃ v' w', (Builtin.append_ #[23, 23] ty #[u, .slice a M.length c]).run Try.prog w = .ok v' w' ∧ w'.ownsRow B 27 4 v' (L ++ M).length (ocs (L ++ M)) ∧ Below B w w' := by
  obtain ⟨i0, hi, hz0, hz1, hz2⟩ := info_parts od_info
  obtain ⟨v', w', q1, q2, q3⟩ := run_app_gen (ty := ty) Try.underlying23 hi hz0 hz1 hz2 rfl (by decide) w B L.length u (ocs L) hu a M.length c (ocs M) (ocs_len M) (fun ad e => od_cells h ad e) (fun e => by
    obtain ⟨a2, cap, hv, -, -, hc⟩ := h
    have ha : a = a2 := by simp at hv; exact hv.1
    cases M with
    | nil => rfl
    | cons x M =>
      obtain ⟨b, o, e2, -⟩ := hc (by simp)
      rw [← ha, e] at e2
      cases e2) (ocs_one' M) (by unfold maxLen; omega) (by omega) hB
  refine ⟨v', w', q1, by rw [List.length_append, ocs_app]; exact q2, (Below.refl B w).grown q3 hB fun g e => ?_⟩
  rcases hu.2 with ⟨rfl, -⟩ | ⟨g', cap, cur, rfl, h1, -⟩
  · cases e
  · cases e; exact h1

set_option maxRecDepth 100000 in
set_option maxHeartbeats 8000000 in
theorem grow_nil (n : Nat) (h9 : n ≤ 1000) (w : World) :
    Calls Try.prog 70 #[.slice none 0 0, .int .i64 n] w fun e w' => ∃ u, e = .returned u ∧ w'.ownsRow w.heap.size 27 4 u 0 [] ∧ Below w.heap.size w w' := by
  by_cases h0 : n = 0
  · subst h0
    go_enter Try.func70, Try.ntmps70
    go_wp2
    go_ret
    exact ⟨_, rfl, World.ownsRow_nil _ _ _ _, by first | exact Below.refl _ _ | exact below_drew _ _⟩
  · obtain ⟨i0, hi, hz0, hz1, hz2⟩ := info_parts od_info
    have h1 : ¬ ((n : Int) < 0) := by omega
    have h4 : (n : Int) > 0 := by omega
    have hrz : ∀ ty, (Builtin.append_ #[23, 3] ty #[.slice none 0 0, .int .i64 (n : Int)]).run Try.prog w =
        .ok (.slice (some ⟨w.heap.size, 0, none⟩) n (grownCap w n 0 27)) (w.drew.alloc (.cells (([] : List Value).toArray ++ Builtin.zeroCells (Value.agg #[.int .i64 0, .int .i64 0, .int .i64 0, .int .i64 0]).cells n ++ Builtin.zeroCells (Value.agg #[.int .i64 0, .int .i64 0, .int .i64 0, .int .i64 0]).cells (grownCap w n 0 27 - n)) 27)) := fun ty => by
      have h := Lib.run_append_grow_zeros (P := Try.prog) w 23 3 ty 27 i0 _ .i64 .i64 Try.underlying23 Try.underlying3 hi hz0 none 0 0 [] (run_firstCells_none w.drew i0.size 0 0 0) n (by omega) (by omega) (by omega) (by omega)
        (by rw [hz2]; omega)
        (by rw [hz2, Nat.zero_add]; exact growslice_fits (by omega) (by omega))
      rw [Nat.zero_add] at h
      exact h
    have hGn : n ≤ grownCap w n 0 27 := grownCap_ge w _ _ _
    have hGm := grownCap_le_maxLen w n 0 27 (by unfold maxLen; omega)
    obtain ⟨G, hG⟩ : ∃ G, G = grownCap w n 0 27 := ⟨_, rfl⟩
    rw [← hG] at hrz hGn hGm
    have HROW := Lib.hid (show (w.drew.alloc (.cells (([] : List Value).toArray ++ Builtin.zeroCells (Value.agg #[.int .i64 0, .int .i64 0, .int .i64 0, .int .i64 0]).cells n ++ Builtin.zeroCells (Value.agg #[.int .i64 0, .int .i64 0, .int .i64 0, .int .i64 0]).cells (G - n)) 27)).ownsRow w.heap.size 27 4 (.slice (some ⟨w.heap.size, 0, none⟩) 0 G) 0 [] from
      ⟨rfl, .inr ⟨w.heap.size, G, _, rfl, Nat.le_refl _, heap_alloc_new _ _, by omega, hGm, by have c4 : (Value.agg #[.int .i64 0, .int .i64 0, .int .i64 0, .int .i64 0]).cells.size = 4 := rfl; simp [Builtin.zeroCells, c4]; omega, rfl⟩⟩)
    have HBEL := Lib.hid ((below_drew w.heap.size w).alloc (Nat.le_refl _) (.cells (([] : List Value).toArray ++ Builtin.zeroCells (Value.agg #[.int .i64 0, .int .i64 0, .int .i64 0, .int .i64 0]).cells n ++ Builtin.zeroCells (Value.agg #[.int .i64 0, .int .i64 0, .int .i64 0, .int .i64 0]).cells (G - n)) 27))
    generalize w.drew.alloc (.cells (([] : List Value).toArray ++ Builtin.zeroCells (Value.agg #[.int .i64 0, .int .i64 0, .int .i64 0, .int .i64 0]).cells n ++ Builtin.zeroCells (Value.agg #[.int .i64 0, .int .i64 0, .int .i64 0, .int .i64 0]).cells (G - n)) 27) = W' at hrz HROW HBEL
    unfold maxLen at hGm
    clear hG hi hz0 hz1 hz2
    have HRZ := Lib.hid hrz
    clear hrz
    go_enter Try.func70, Try.ntmps70
    go_wp2_with (at_builtin; refine Lib.wpList_append_run _ rfl _ _ _ _ rfl _ _ rfl rfl _ _ (HRZ.out _) ?_)
    all_goals go_ret
    all_goals exact ⟨_, rfl, HROW.out, HBEL.out⟩
theorem grow_n (n : Nat) (z : Int) (hz : z = (n : Int)) (h9 : n ≤ 1000) (w : World) :
    Calls Try.prog 70 #[.slice none 0 0, .int .i64 z] w fun e w' => ∃ u, e = .returned u ∧ w'.ownsRow w.heap.size 27 4 u 0 [] ∧ Below w.heap.size w w' := by
  subst hz
  exact grow_nil n h9 w
/-- Two lists behind slices behind a slice. -/
def Two (w : World) (b o : Nat) (v1 v2 : Value) : Prop := w.cell? ⟨b, o, none⟩ = some v1 ∧ w.cell? ⟨b, o + 1, none⟩ = some v2
theorem Two.step {w w1 : World} {b o : Nat} {v1 v2 : Value} (h : Two w b o v1 v2) (hb : Below w.heap.size w w1) : Two w1 b o v1 v2 := ⟨keep1 hb h.1, keep1 hb h.2⟩
def sm (m1 m2 : Nat) : Nat → Int
  | 0 => 0
  | 1 => m1
  | _ => ((m1 + m2 : Nat) : Int)
def cc (L M : List Od) : Nat → List Od
  | 0 => []
  | 1 => L
  | _ => L ++ M
set_option maxRecDepth 100000 in
set_option maxHeartbeats 8000000 in
theorem concat_any (b o : Nat) (a1 a2 : Option Addr) (c1 c2 : Nat) (L M : List Od) (w : World) (h : Two w b o (.slice a1 L.length c1) (.slice a2 M.length c2)) (h1 : OdsAt w (.slice a1 L.length c1) L) (h2 : OdsAt w (.slice a2 M.length c2) M) (hm1 : L.length ≤ 400) (hm2 : M.length ≤ 400) :
    Calls Try.prog 63 #[.slice (some ⟨b, o, none⟩) 2 2] w fun e w' => ∃ u, e = .returned u ∧ w'.ownsRow w.heap.size 27 4 u (L ++ M).length (ocs (L ++ M)) ∧ Below w.heap.size w w' := by
  have HT := Lib.hid h
  have H1 := Lib.hid h1
  have H2 := Lib.hid h2
  have HM := Lib.hid (And.intro hm1 hm2)
  have t0 := h.1
  have t1 := h.2
  have tz : b < w.heap.size := World.block_lt_of_cell? _ _ t0
  clear h h1 h2
  go_enter Try.func63, Try.ntmps63
  go_wp2_with fail
  go_loopw [3, 11] (fun sv iv wr => ∃ k : Nat, k ≤ 2 ∧ iv = .int .i64 k ∧ sv = .int .i64 (sm L.length M.length k) ∧ Hid (Below w.heap.size w wr)) (fun _ iv _ => 2 - (intOf iv).toNat)
  case atStart => exact ⟨0, by omega, rfl, rfl, Lib.hid (Below.refl _ _)⟩
  case round =>
    obtain ⟨k, hk, rfl, rfl, HB⟩ := hrel
    have hT := HT.out.step HB.out
    have t0 := hT.1
    have t1 := hT.2
    have tz : b < wr.heap.size := World.block_lt_of_cell? _ _ t0
    clear hT
    match k, hk with
    | 0, _ =>
      simp only [sm]
      go_wp2
      go_roundw
      case rel => exact ⟨1, by omega, by go_num, by simp, HB⟩
      case measure => simp [intOf]
    | 1, _ =>
      simp only [sm]
      have e1 : wrap64 ((L.length : Int) + (M.length : Int)) = (L.length : Int) + (M.length : Int) := IntWalk.wrap64_in _ (by omega)
      have e2 : ¬ ((L.length : Int) + (M.length : Int) < 0) := by omega
      go_wp2
      go_roundw
      case rel => exact ⟨2, by omega, by go_num, by simp, HB⟩
      case measure => simp [intOf]
    | 2, _ =>
      simp only [sm]
      go_wp2_with fail
      refine (grow_n (L.length + M.length) _ (by omega) (by omega) _).mono ?_
      rintro e w2 ⟨u, rfl, hu, b2⟩
      have HU := Lib.hid (row_base hu HB.out.size)
      have HB2 := Lib.hid (keep2 b2 HB.out)
      have hT := HT.out.step HB2.out
      have t0 := hT.1
      have t1 := hT.2
      have tz : b < w2.heap.size := World.block_lt_of_cell? _ _ t0
      clear hu b2 hT
      go_wp2_with fail
      go_loopw [6, 27] (fun rv iv wr => ∃ k : Nat, k ≤ 2 ∧ iv = .int .i64 k ∧ Hid (wr.ownsRow w.heap.size 27 4 rv (cc L M k).length (ocs (cc L M k))) ∧ Hid (Below w.heap.size w wr)) (fun _ iv _ => 2 - (intOf iv).toNat)
      case atStart => exact ⟨0, by omega, rfl, HU, HB2⟩
      case round =>
        obtain ⟨k2, hk2, rfl, HR, HB3⟩ := hrel
        have hT := HT.out.step HB3.out
        have t0 := hT.1
        have t1 := hT.2
        have tz : b < wr.heap.size := World.block_lt_of_cell? _ _ t0
        clear hT
        match k2, hk2 with
        | 0, _ =>
          have hr : wr.ownsRow w.heap.size 27 4 u6 (([] : List Od)).length (ocs (([] : List Od))) := HR.out
          obtain ⟨v', w5, hq, ho, hb⟩ := app_list wr w.heap.size u6 (([] : List Od)) L hr a1 c1 (H1.out.step HB3.out) (by first | omega | (simp; omega)) HB3.out.size 23
          have HQ := Lib.hid hq
          have HO := Lib.hid (show w5.ownsRow w.heap.size 27 4 v' (cc L M 1).length (ocs (cc L M 1)) from ho)
          have HB5 := Lib.hid (HB3.out.trans hb)
          clear hr hq ho hb
          go_wp2_with (at_builtin; refine Lib.wpList_append_run _ rfl _ _ _ _ rfl _ _ rfl rfl _ _ HQ.out ?_)
          go_roundw
          case rel => exact ⟨1, by omega, by go_num, HO, HB5⟩
          case measure => simp [intOf]
        | 1, _ =>
          have hr : wr.ownsRow w.heap.size 27 4 u6 (L).length (ocs (L)) := HR.out
          obtain ⟨v', w5, hq, ho, hb⟩ := app_list wr w.heap.size u6 (L) M hr a2 c2 (H2.out.step HB3.out) (by first | omega | (simp; omega)) HB3.out.size 23
          have HQ := Lib.hid hq
          have HO := Lib.hid (show w5.ownsRow w.heap.size 27 4 v' (cc L M 2).length (ocs (cc L M 2)) from ho)
          have HB5 := Lib.hid (HB3.out.trans hb)
          clear hr hq ho hb
          go_wp2_with (at_builtin; refine Lib.wpList_append_run _ rfl _ _ _ _ rfl _ _ rfl rfl _ _ HQ.out ?_)
          go_roundw
          case rel => exact ⟨2, by omega, by go_num, HO, HB5⟩
          case measure => simp [intOf]
        | 2, _ =>
          go_wp2
          go_ret
          exact ⟨_, rfl, HR.out, HB3.out⟩
open Go.RowKit

theorem ods_take {w : World} {a : Option Addr} {n c : Nat} {L : List Od} (h : OdsAt w (.slice a n c) L) (i : Nat) (hi : i ≤ L.length) : OdsAt w (.slice a i c) (L.take i) := by
  obtain ⟨a2, c2, hv, h1, hm, hc⟩ := h
  obtain ⟨rfl, rfl, rfl⟩ : a = a2 ∧ n = L.length ∧ c = c2 := by simpa using hv
  have hl : (L.take i).length = i := by rw [List.length_take]; omega
  refine ⟨a, c, by rw [hl], by omega, by omega, fun hne => ?_⟩
  have hL : L ≠ [] := by intro e; rw [e] at hne; simp at hne
  obtain ⟨b, off, rfl, hx⟩ := hc hL
  refine ⟨b, off, rfl, fun j x hj => hx j x ?_⟩
  have hjl : j < (L.take i).length := (List.getElem?_eq_some_iff.1 hj).1
  rw [List.getElem?_take_of_lt (by omega)] at hj
  exact hj
theorem ods_drop {w : World} {b o n c m k : Nat} {L : List Od} (h : OdsAt w (.slice (some ⟨b, o, none⟩) n c) L) (hm : m ≤ L.length) (hk : k = n - m) : OdsAt w (.slice (if c = m then some ⟨b, o, none⟩ else some ⟨b, o + m * 4, none⟩) k (c - m)) (L.drop m) := by
  obtain ⟨a2, c2, hv, h1, hx9, hc⟩ := h
  obtain ⟨rfl, rfl, rfl⟩ : some (⟨b, o, none⟩ : Addr) = a2 ∧ n = L.length ∧ c = c2 := by simpa using hv
  have hl : (L.drop m).length = k := by rw [List.length_drop]; omega
  refine ⟨_, c - m, by rw [hl], by omega, by omega, fun hne => ?_⟩
  have hL : L ≠ [] := by intro e; rw [e] at hne; simp at hne
  have hcm : ¬ c = m := by
    intro e
    have : L.drop m = [] := List.drop_eq_nil_of_le (by omega)
    exact hne this
  obtain ⟨b2, off, e2, hx⟩ := hc hL
  obtain ⟨rfl, rfl⟩ : b = b2 ∧ o = off := by simpa using e2
  refine ⟨b, o + m * 4, by rw [if_neg hcm], fun j x hj => ?_⟩
  rw [List.getElem?_drop] at hj
  have := hx (m + j) x hj
  rw [show o + m * 4 + j * 4 = o + (m + j) * 4 by omega]
  exact this
theorem ods_new (W : World) (x : Od) (t : TypeId) (n : Nat) (hn : n = W.heap.size) : OdsAt (W.alloc (.cells #[.int .i64 x.a, .int .i64 x.b, .int .i64 x.c, .int .i64 x.d] t)) (.slice (some ⟨n, 0, none⟩) [x].length 1) [x] := by
  have hc := Cs.new W n #[.int .i64 x.a, .int .i64 x.b, .int .i64 x.c, .int .i64 x.d] t hn
  refine ⟨_, 1, rfl, by simp, by unfold maxLen; simp, fun _ => ⟨n, 0, rfl, fun i y hi => ?_⟩⟩
  have h0 : i = 0 := by have := (List.getElem?_eq_some_iff.1 hi).1; simpa using this
  subst h0
  obtain rfl : x = y := by simpa using hi
  exact ⟨hc.c 0 rfl, hc.c 1 rfl, hc.c 2 rfl, hc.c 3 rfl⟩
theorem done_of2 {k : Nat} {w w5 w6 : World} {M : List Od} {fa : Option Addr} {fc : Nat} {E : Int} (hk : k < w.heap.size) (h5 : Below w.heap.size w w5)
    (ho : w5.ownsRow w.heap.size 27 4 (.slice fa M.length fc) M.length (ocs M)) (hbel : Bel k w5.heap.size w6 (.slice fa M.length fc) M) (hc : Chg k w5 w6) (hE : E = 0) : Done k w E M (.returned (.int .i64 0)) w6 := by
  have ha := row_adr ho
  refine ⟨by rw [hE], (Chg.of h5).trans hc, fun _ => ⟨fa, fc, hbel.base h5.size, hc.ods (fun g o e h => by have := ha g o e; omega) (ods_of_row rfl ho), fun g o e => ha g o e⟩⟩
/-- The order that is confirmed. -/
def cfP (seq : Int) : Od → Bool := fun x => !stB x && decide (x.a = seq)
def cfS (o : Od) : Od → Bool := fun x => decide (o.a - 16 < x.a) && decide (o.b ≤ x.b)
def cfO (L : List Od) (i : Nat) : List Od := (flt (L.take i) ++ L.drop (i + 1)).filter (cfS (L.getD i zO)) ++ [{ L.getD i zO with c := -1 }]
def cfE (seq : Int) (L : List Od) : Int := match fsI (cfP seq) L 0 with
  | some _ => 0
  | none => 27
def cfM (seq : Int) (L : List Od) : List Od := match fsI (cfP seq) L 0 with
  | some i => cfO L i
  | none => []
set_option maxRecDepth 100000 in
set_option maxHeartbeats 8000000 in
theorem confirm_any (k : Nat) (v1 : Value) (sa : Option Addr) (sc : Nat) (L : List Od) (seq : Int) (w : World) (hC : Cs w k #[v1, .slice sa L.length sc]) (h : OdsAt w (.slice sa L.length sc) L) (h9 : L.length ≤ 300) (hb9 : ∀ x ∈ L, -1000 ≤ x.a ∧ x.a ≤ 1000000000) :
    Calls Try.prog 44 #[.pointer (some ⟨k, 0, none⟩), .int .i64 seq] w (Done k w (cfE seq L) (cfM seq L)) := by
  have HQ0 := Lib.hid (Cs.new w w.heap.size #[.int .i64 seq] 3 rfl)
  have HB0 := Lib.hid (al w (.cells #[.int .i64 seq] 3))
  have HL0 := Lib.hid (h.step HB0.out)
  have HC0 := Lib.hid (hC.step HB0.out)
  have H9 := Lib.hid h9
  have HX := Lib.hid hC.2.2
  have HV := Lib.hid hb9
  have c0 := HC0.out.c 0 rfl
  have c1 := HC0.out.c 1 rfl
  have cz := HC0.out.2.2
  clear hC h h9 hb9
  cases hf : fsI (cfP seq) L 0 with
  | none =>
    have HE := Lib.hid (show cfE seq L = 27 by unfold cfE; rw [hf])
    have HP := Lib.hid (show fsP (cfP seq) L = -1 by unfold fsP; rw [hf])
    clear hf
    go_enter Try.func44, Try.ntmps44
    go_wp2_with fail
    refine (index_any _ L 59 #[.pointer (some ⟨w.heap.size, 0, none⟩)] (cfP seq) _ HL0.out (confirm1_fits seq w.heap.size _ HQ0.out) eg59).mono ?_
    rintro e y1 ⟨rfl, b⟩
    rw [HP.out]
    have HB1 := Lib.hid (keep2 b HB0.out)
    clear b c0 c1 cz
    go_wp2
    exact bodyPost_ret (v := .int .i64 27) (by simp [results, Try.results44, go_sem]) rfl ⟨by rw [HE.out], Chg.of HB1.out, fun e => by rw [HE.out] at e; cases e⟩
  | some i =>
    have HE := Lib.hid (show cfE seq L = 0 by unfold cfE; rw [hf])
    have HM := Lib.hid (show cfM seq L = cfO L i by unfold cfM; rw [hf])
    have HP := Lib.hid (show fsP (cfP seq) L = i by unfold fsP; rw [hf])
    have hi : i < L.length := by have := (fsI_some.1 hf).2.1; omega
    clear hf
    go_enter Try.func44, Try.ntmps44
    go_wp2_with fail
    refine (index_any _ L 59 #[.pointer (some ⟨w.heap.size, 0, none⟩)] (cfP seq) _ HL0.out (confirm1_fits seq w.heap.size _ HQ0.out) eg59).mono ?_
    rintro e y1 ⟨rfl, b⟩
    rw [HP.out]
    have HB1 := Lib.hid (keep2 b HB0.out)
    have HL1 := Lib.hid (HL0.out.step b)
    have HC1 := Lib.hid (HC0.out.step b)
    clear b c0 c1 cz HL0 HC0 HQ0
    have c0 := HC1.out.c 0 rfl
    have c1 := HC1.out.c 1 rfl
    have cz := HC1.out.2.2
    obtain ⟨a1, d1, hv1, hcap, -, hcs1⟩ := HL1.out
    obtain ⟨rfl, rfl⟩ : sa = a1 ∧ sc = d1 := by simpa using hv1
    obtain ⟨b1, o1, rfl, hx1⟩ := hcs1 (by intro e; rw [e] at hi; simp at hi)
    obtain ⟨z0, z1, z2, z3⟩ := hx1 i _ (od_get hi)
    have yz : b1 < y1.heap.size := World.block_lt_of_cell? _ _ z0
    have HVo := Lib.hid (HV.out (L.getD i zO) (List.mem_of_getElem? (od_get hi)))
    have HOi := Lib.hid (show cfO L i = (flt (L.take i) ++ L.drop (i + 1)).filter (cfS (L.getD i zO)) ++ [{ L.getD i zO with c := -1 }] from rfl)
    clear hcs1 hx1 hv1
    generalize L.getD i zO = o at *
    have HO2 := Lib.hid (Cs.new y1 y1.heap.size #[.int .i64 o.a, .int .i64 o.b, .int .i64 o.c, .int .i64 o.d] 27 rfl)
    have HA2 := Lib.hid (al y1 (.cells #[.int .i64 o.a, .int .i64 o.b, .int .i64 o.c, .int .i64 o.d] 27))
    have HB2 := Lib.hid (keep2 HA2.out HB1.out)
    have HL2 := Lib.hid (HL1.out.step HA2.out)
    have HC2 := Lib.hid (HC1.out.step HA2.out)
    have d0 := HC2.out.c 0 rfl
    have d1 := HC2.out.c 1 rfl
    have dz := HC2.out.2.2
    have t1 : (i : Int) < (L.length : Int) := by omega
    have t2 : (i : Int) ≤ (sc : Int) := by omega
    have t3 : i ≤ sc := by omega
    go_wp2_with fail
    refine (those_any _ (L.take i) 62 #[] (fun x => !stB x) _ (ods_take HL2.out i (by omega)) (confirm2_fits _) (by have := H9.out; rw [List.length_take]; omega) eg62).mono ?_
    rintro e y3 ⟨u3, rfl, hu3, b⟩
    obtain ⟨a3, c3, rfl⟩ := row_slice hu3
    have HU3 := Lib.hid (ods_of_row rfl hu3)
    have HO3 := Lib.hid (HO2.out.step b)
    have HB3 := Lib.hid (keep2 b HB2.out)
    have HL3 := Lib.hid (HL2.out.step b)
    have HC3 := Lib.hid (HC2.out.step b)
    clear hu3 b c0 c1 cz d0 d1 dz z0 z1 z2 z3 yz HO2 HB2 HL2 HC2 HL1 HC1 HA2
    have c0 := HC3.out.c 0 rfl
    have c1 := HC3.out.c 1 rfl
    have cz := HC3.out.2.2
    have t4 : (i : Int) + 1 ≤ (sc : Int) := by omega
    have t5 : i + 1 ≤ sc := by omega
    have t6 : ((i : Int) + 1).toNat = i + 1 := by omega
    have t7 : (i : Int) + 1 ≤ (L.length : Int) := by omega
    have t8 : i + 1 ≤ L.length := by omega
    have t9 : wrap64 ((i : Int) + 1) = (i : Int) + 1 := IntWalk.wrap64_in _ (by have := H9.out; omega)
    by_cases hs : sc = i + 1
    · subst hs
      have hl0 : L.length - (i + 1) = 0 := by omega
      have HD := Lib.hid (show OdsAt y3 (.slice (some ⟨b1, o1, none⟩) 0 0) (L.drop (i + 1)) from (by have h := ods_drop HL3.out (m := i + 1) (k := L.length - (i + 1)) (by omega) rfl; rw [if_pos rfl, Nat.sub_self, hl0] at h; exact h))
      go_wp2_with fail
      refine (concat_any y3.heap.size 0 a3 (some ⟨b1, o1, none⟩) c3 0 (flt (L.take i)) (L.drop (i + 1)) _ ⟨(Cs.new _ _ _ _ rfl).c 0 rfl, by rw [List.length_drop, hl0]; exact (Cs.new _ _ _ _ rfl).c 1 rfl⟩ (HU3.out.step (al _ _)) (by rw [List.length_drop, hl0]; exact HD.out.step (al _ _)) (by have := H9.out; have := flt_len (fun x => !stB x) L i; unfold flt; omega) (by have := H9.out; rw [List.length_drop]; omega)).mono ?_
      rintro e y4 ⟨u4, rfl, hu4, b⟩
      have HU4 := Lib.hid (ods_of_row rfl hu4)
      have HO4 := Lib.hid (HO3.out.step (keep2 b (al _ _)))
      have HB4 := Lib.hid (keep2 (keep2 b (al _ _)) HB3.out)
      have HC4 := Lib.hid (HC3.out.step (keep2 b (al _ _)))
      have HLC := Lib.hid (show (flt (L.take i) ++ L.drop (i + 1)).length ≤ 700 by have := H9.out; have := flt_len (fun x => !stB x) L i; rw [List.length_append, List.length_drop]; unfold flt; omega)
      clear hu4 b c0 c1 cz HO3 HB3 HC3
      go_wp2_with fail
      refine (those_any u4 (flt (L.take i) ++ L.drop (i + 1)) 64 #[.pointer (some ⟨y1.heap.size, 0, none⟩)] (cfS o) _ HU4.out (confirm3_fits o _ HVo.out _ HO4.out) (by have := HLC.out; omega) eg64).mono ?_
      rintro e y5 ⟨u5, rfl, hu5, b⟩
      have HO5 := Lib.hid (HO4.out.step b)
      have HB5 := Lib.hid (keep2 b HB4.out)
      have HC5 := Lib.hid (HC4.out.step b)
      have HL5 := Lib.hid (show ((flt (L.take i) ++ L.drop (i + 1)).filter (cfS o)).length ≤ 700 from Nat.le_trans (List.length_filter_le _ _) HLC.out)
      generalize (flt (L.take i) ++ L.drop (i + 1)).filter (cfS o) = S at *
      have hne : k ≠ y1.heap.size := fun e => by have := HX.out; have := HB1.out.size; omega
      have hw1 : w.heap.size ≤ y1.heap.size := HB1.out.size
      have HS := Lib.hid (Cs.set HO5.out 2 (by simp) (.int .i64 (-1)) (vs' := #[.int .i64 o.a, .int .i64 o.b, .int .i64 (-1), .int .i64 o.d]) rfl)
      have HB6 := Lib.hid (HB5.out.setCell (p := ⟨y1.heap.size, 2, none⟩) hw1 (.int .i64 (-1)))
      have HC6 := Lib.hid (HC5.out.other hne 2 (.int .i64 (-1)))
      have HR6 := Lib.hid (row_base (ownsRow_setCell_below hu5 (a := ⟨y1.heap.size, 2, none⟩) HO4.out.2.2 (.int .i64 (-1))) (b2 := w.heap.size) HB4.out.size)
      have x2 := HO5.out.c 2 rfl
      have f2 := HO5.out.f 2 (by simp)
      have xz := HO5.out.2.2
      have s0 := HS.out.c 0 rfl
      have s1 := HS.out.c 1 rfl
      have s2 := HS.out.c 2 rfl
      have s3 := HS.out.c 3 rfl
      have sz := HS.out.2.2
      clear hu5 b HO5 HB5 HC5 HO4 HB4 HC4
      obtain ⟨v', w7, hq, ho, hb⟩ := app_list ((y5.setCell ⟨y1.heap.size, 2, none⟩ (.int .i64 (-1))).alloc (.cells #[.int .i64 o.a, .int .i64 o.b, .int .i64 (-1), .int .i64 o.d] 27)) w.heap.size u5 S [{ a := o.a, b := o.b, c := -1, d := o.d }] (row_step HR6.out (al _ _)) (some ⟨y5.heap.size, 0, none⟩) 1 (ods_new _ { a := o.a, b := o.b, c := -1, d := o.d } 27 _ (by simp)) (by have := HL5.out; simp; omega) (by have := HB6.out.size; simp at this ⊢; omega) 23
      obtain ⟨fa, fc, rfl⟩ := row_slice ho
      have HQ := Lib.hid hq
      have HO7 := Lib.hid ho
      have HB7 := Lib.hid ((HB6.out.alloc HB6.out.size (.cells #[.int .i64 o.a, .int .i64 o.b, .int .i64 (-1), .int .i64 o.d] 27)).trans hb)
      have HC7 := Lib.hid (show Cs w7 k #[v1, .slice (some ⟨b1, o1, none⟩) L.length (i + 1)] from by
        have hx := HC6.out.alloc (.cells #[.int .i64 o.a, .int .i64 o.b, .int .i64 (-1), .int .i64 o.d] 27)
        have hk := HX.out
        exact ⟨fun j hj => (World.cell?_of_block (a := ⟨k, j, none⟩) (hb.block k hk)).trans (hx.1 j hj), fun j hj => (World.frozen?_of_block (a := ⟨k, j, none⟩) (hb.block k hk)).trans (hx.2.1 j hj), Nat.lt_of_lt_of_le hx.2.2 hb.size⟩)
      clear hq ho hb
      have HMM := Lib.hid (HM.out.trans HOi.out)
      go_wp2_with (at_builtin; refine Lib.wpList_append_run _ rfl _ _ _ _ rfl _ _ rfl rfl _ _ HQ.out ?_)
      refine (become_n k v1 _ fa fc _ (S ++ [{ a := o.a, b := o.b, c := -1, d := o.d }]) (by simp) _ HC7.out (ods_of_row rfl HO7.out) (by have := HL5.out; simp; omega)).mono ?_
      rintro e w8 ⟨rfl, hbel, hchg⟩
      go_wp2
      exact bodyPost_ret (v := .int .i64 0) (by simp [results, Try.results44, go_sem]) rfl (by rw [HMM.out]; exact done_of2 HX.out HB7.out HO7.out hbel hchg HE.out)
    · have hs2 : ¬ i + 1 = sc := fun e => hs e.symm
      have HD := Lib.hid (show OdsAt y3 (.slice (some ⟨b1, o1 + (i + 1) * 4, none⟩) (L.length - (i + 1)) (sc - (i + 1))) (L.drop (i + 1)) from (by have h := ods_drop HL3.out (m := i + 1) (k := L.length - (i + 1)) (by omega) rfl; rw [if_neg hs] at h; exact h))
      go_wp2_with fail
      refine (concat_any y3.heap.size 0 a3 (some ⟨b1, o1 + (i + 1) * 4, none⟩) c3 (sc - (i + 1)) (flt (L.take i)) (L.drop (i + 1)) _ ⟨(Cs.new _ _ _ _ rfl).c 0 rfl, by rw [List.length_drop]; exact (Cs.new _ _ _ _ rfl).c 1 rfl⟩ (HU3.out.step (al _ _)) (by rw [List.length_drop]; exact HD.out.step (al _ _)) (by have := H9.out; have := flt_len (fun x => !stB x) L i; unfold flt; omega) (by have := H9.out; rw [List.length_drop]; omega)).mono ?_
      rintro e y4 ⟨u4, rfl, hu4, b⟩
      have HU4 := Lib.hid (ods_of_row rfl hu4)
      have HO4 := Lib.hid (HO3.out.step (keep2 b (al _ _)))
      have HB4 := Lib.hid (keep2 (keep2 b (al _ _)) HB3.out)
      have HC4 := Lib.hid (HC3.out.step (keep2 b (al _ _)))
      have HLC := Lib.hid (show (flt (L.take i) ++ L.drop (i + 1)).length ≤ 700 by have := H9.out; have := flt_len (fun x => !stB x) L i; rw [List.length_append, List.length_drop]; unfold flt; omega)
      clear hu4 b c0 c1 cz HO3 HB3 HC3
      go_wp2_with fail
      refine (those_any u4 (flt (L.take i) ++ L.drop (i + 1)) 64 #[.pointer (some ⟨y1.heap.size, 0, none⟩)] (cfS o) _ HU4.out (confirm3_fits o _ HVo.out _ HO4.out) (by have := HLC.out; omega) eg64).mono ?_
      rintro e y5 ⟨u5, rfl, hu5, b⟩
      have HO5 := Lib.hid (HO4.out.step b)
      have HB5 := Lib.hid (keep2 b HB4.out)
      have HC5 := Lib.hid (HC4.out.step b)
      have HL5 := Lib.hid (show ((flt (L.take i) ++ L.drop (i + 1)).filter (cfS o)).length ≤ 700 from Nat.le_trans (List.length_filter_le _ _) HLC.out)
      generalize (flt (L.take i) ++ L.drop (i + 1)).filter (cfS o) = S at *
      have hne : k ≠ y1.heap.size := fun e => by have := HX.out; have := HB1.out.size; omega
      have hw1 : w.heap.size ≤ y1.heap.size := HB1.out.size
      have HS := Lib.hid (Cs.set HO5.out 2 (by simp) (.int .i64 (-1)) (vs' := #[.int .i64 o.a, .int .i64 o.b, .int .i64 (-1), .int .i64 o.d]) rfl)
      have HB6 := Lib.hid (HB5.out.setCell (p := ⟨y1.heap.size, 2, none⟩) hw1 (.int .i64 (-1)))
      have HC6 := Lib.hid (HC5.out.other hne 2 (.int .i64 (-1)))
      have HR6 := Lib.hid (row_base (ownsRow_setCell_below hu5 (a := ⟨y1.heap.size, 2, none⟩) HO4.out.2.2 (.int .i64 (-1))) (b2 := w.heap.size) HB4.out.size)
      have x2 := HO5.out.c 2 rfl
      have f2 := HO5.out.f 2 (by simp)
      have xz := HO5.out.2.2
      have s0 := HS.out.c 0 rfl
      have s1 := HS.out.c 1 rfl
      have s2 := HS.out.c 2 rfl
      have s3 := HS.out.c 3 rfl
      have sz := HS.out.2.2
      clear hu5 b HO5 HB5 HC5 HO4 HB4 HC4
      obtain ⟨v', w7, hq, ho, hb⟩ := app_list ((y5.setCell ⟨y1.heap.size, 2, none⟩ (.int .i64 (-1))).alloc (.cells #[.int .i64 o.a, .int .i64 o.b, .int .i64 (-1), .int .i64 o.d] 27)) w.heap.size u5 S [{ a := o.a, b := o.b, c := -1, d := o.d }] (row_step HR6.out (al _ _)) (some ⟨y5.heap.size, 0, none⟩) 1 (ods_new _ { a := o.a, b := o.b, c := -1, d := o.d } 27 _ (by simp)) (by have := HL5.out; simp; omega) (by have := HB6.out.size; simp at this ⊢; omega) 23
      obtain ⟨fa, fc, rfl⟩ := row_slice ho
      have HQ := Lib.hid hq
      have HO7 := Lib.hid ho
      have HB7 := Lib.hid ((HB6.out.alloc HB6.out.size (.cells #[.int .i64 o.a, .int .i64 o.b, .int .i64 (-1), .int .i64 o.d] 27)).trans hb)
      have HC7 := Lib.hid (show Cs w7 k #[v1, .slice (some ⟨b1, o1, none⟩) L.length sc] from by
        have hx := HC6.out.alloc (.cells #[.int .i64 o.a, .int .i64 o.b, .int .i64 (-1), .int .i64 o.d] 27)
        have hk := HX.out
        exact ⟨fun j hj => (World.cell?_of_block (a := ⟨k, j, none⟩) (hb.block k hk)).trans (hx.1 j hj), fun j hj => (World.frozen?_of_block (a := ⟨k, j, none⟩) (hb.block k hk)).trans (hx.2.1 j hj), Nat.lt_of_lt_of_le hx.2.2 hb.size⟩)
      clear hq ho hb
      have HMM := Lib.hid (HM.out.trans HOi.out)
      go_wp2_with (at_builtin; refine Lib.wpList_append_run _ rfl _ _ _ _ rfl _ _ rfl rfl _ _ HQ.out ?_)
      refine (become_n k v1 _ fa fc _ (S ++ [{ a := o.a, b := o.b, c := -1, d := o.d }]) (by simp) _ HC7.out (ods_of_row rfl HO7.out) (by have := HL5.out; simp; omega)).mono ?_
      rintro e w8 ⟨rfl, hbel, hchg⟩
      go_wp2
      exact bodyPost_ret (v := .int .i64 0) (by simp [results, Try.results44, go_sem]) rfl (by rw [HMM.out]; exact done_of2 HX.out HB7.out HO7.out hbel hchg HE.out)
open Go.RowKit

def rpT (t : Int) : Od → Bool := fun x => decide (t < x.a)
/-- The greatest fence of the orders up to 't'. -/
def rpB (t : Int) (L : List Od) : Int := L.foldl (fun b x => if rpT t x = true then b else max b x.b) 0
def rpE (V : List Int) (L : List Od) (v t : Int) : Int :=
  if inr t (-1) 1000000000 = false then 1
  else if (!V.contains v || (L.filter stB).any (rpT t)) = true then 28
  else 0
def rpM (L : List Od) (v t : Int) : List Od := ⟨t, rpB t L, -1, v⟩ :: (flt L).filter (rpT t)
theorem rpB_step {t : Int} {L : List Od} {i : Nat} (h : i < L.length) : rpB t (L.take (i + 1)) = if rpT t (L.getD i zO) = true then rpB t (L.take i) else max (rpB t (L.take i)) (L.getD i zO).b := by
  have e : L.take (i + 1) = L.take i ++ [L.getD i zO] := by rw [List.take_add_one, od_get h]; rfl
  unfold rpB
  rw [e, List.foldl_append]; rfl
theorem step_app_list {ops : Array Oper} {op : Oper} {a : Act} {W : World} {K : Act → World → Prop} {Q : Exit → Act → World → Prop} {E : Prop} (hgd : op.guard = none) (s x : Operand)
    (ho : op.op = .call { callee := .builtin .append, args := #[s, x], argTypes := #[23, 23] }) (B : Nat) (L M : List Od) (u : Value) (ad : Option Addr) (c : Nat) (hs : a.eval s = u) (hx : a.eval x = .slice ad M.length c)
    (hrow : W.ownsRow B 27 4 u L.length (ocs L)) (hl : OdsAt W (.slice ad M.length c) M) (h9 : L.length + M.length ≤ 100000) (hB : B ≤ W.heap.size)
    (h : ∀ v' w5, w5.ownsRow B 27 4 v' (L ++ M).length (ocs (L ++ M)) → Below B W w5 → K (a.put op.dst v') w5) :
    if Region.wanted op (yielded ops a.tmps) = true then Oper.wp Try.prog op a W K Q else E := by
  have hw : Region.wanted op (yielded ops a.tmps) = true := by simp [Region.wanted, hgd]
  obtain ⟨v', w5, hr, ho5, hb5⟩ := app_list W B u L M hrow ad c hl h9 hB op.type
  rw [if_pos hw]
  unfold Oper.wp execOp
  simp only [ho, resolve, invoke, builtin, Sem.run_bind, Sem.run_pure, Result.andThen_ok, List.map_toArray, List.map_cons, List.map_nil, hs, hx, hr]
  exact h v' w5 ho5 hb5
theorem row_one (W : World) (x : Od) (B : Nat) (hB : B ≤ W.heap.size) : (W.alloc (.cells #[.int .i64 x.a, .int .i64 x.b, .int .i64 x.c, .int .i64 x.d] 27)).ownsRow B 27 4 (.slice (some ⟨W.heap.size, 0, none⟩) 1 1) [x].length (ocs [x]) :=
  ⟨rfl, .inr ⟨W.heap.size, 1, _, rfl, hB, heap_alloc_new _ _, by simp, by unfold maxLen; omega, rfl, rfl⟩⟩
set_option maxRecDepth 100000 in
set_option maxHeartbeats 8000000 in
theorem report_any (k : Nat) (va : Option Addr) (vc : Nat) (V : List Int) (sa : Option Addr) (sc : Nat) (L : List Od) (v t : Int) (w : World) (hC : Cs w k #[.slice va V.length vc, .slice sa L.length sc]) (h : OdsAt w (.slice sa L.length sc) L) (hV : IntsAt w (.slice va V.length vc) V) (h9 : L.length ≤ 300) (h8 : V.length ≤ 300) :
    Calls Try.prog 46 #[.pointer (some ⟨k, 0, none⟩), .int .i64 v, .int .i64 t] w (Done k w (rpE V L v t) (rpM L v t)) := by
  have HQ0 := Lib.hid (Cs.new w w.heap.size #[.int .i64 t] 3 rfl)
  have HB0 := Lib.hid (al w (.cells #[.int .i64 t] 3))
  have HL0 := Lib.hid (h.step HB0.out)
  have HC0 := Lib.hid (hC.step HB0.out)
  have HV0 := Lib.hid (hV.step HB0.out)
  have H9 := Lib.hid h9
  have H8 := Lib.hid h8
  have HX := Lib.hid hC.2.2
  have q0 := HQ0.out.c 0 rfl
  have qz := HQ0.out.2.2
  clear hC h h9 hV h8
  cases ra : inr t (-1) 1000000000
  · have HE := Lib.hid (show rpE V L v t = 1 by unfold rpE; rw [if_pos ra])
    go_enter Try.func46, Try.ntmps46
    go_wp2_with fail
    refine (within_any _ _ _ _).mono ?_
    rintro e y1 ⟨rfl, b⟩
    rw [ra]
    have HB1 := Lib.hid (keep2 b HB0.out)
    clear b q0 qz
    go_wp2
    exact bodyPost_ret (v := .int .i64 1) (by simp [results, Try.results46, go_sem]) rfl ⟨by rw [HE.out], Chg.of HB1.out, fun e => by rw [HE.out] at e; cases e⟩
  go_enter Try.func46, Try.ntmps46
  go_wp2_with fail
  refine (within_any _ _ _ _).mono ?_
  rintro e y1 ⟨rfl, b⟩
  rw [ra]
  have HB1 := Lib.hid (keep2 b HB0.out)
  have HQ1 := Lib.hid (HQ0.out.step b)
  have HL1 := Lib.hid (HL0.out.step b)
  have HC1 := Lib.hid (HC0.out.step b)
  have HV1 := Lib.hid (HV0.out.step b)
  clear b q0 qz HB0 HQ0 HL0 HC0 HV0
  have q0 := HQ1.out.c 0 rfl
  have qz := HQ1.out.2.2
  have c0 := HC1.out.c 0 rfl
  have c1 := HC1.out.c 1 rfl
  have cz := HC1.out.2.2
  cases rv : V.contains v
  · have HE := Lib.hid (show rpE V L v t = 28 by unfold rpE; rw [if_neg (by rw [ra]; exact Bool.noConfusion), rv]; rfl)
    go_wp2_with fail
    refine (contains_own _ V v _ HV1.out (by have := H8.out; omega)).mono ?_
    rintro e y2 ⟨rfl, rfl⟩
    rw [rv]
    go_wp2
    exact bodyPost_ret (v := .int .i64 28) (by simp [results, Try.results46, go_sem]) rfl ⟨by rw [HE.out], Chg.of HB1.out, fun e => by rw [HE.out] at e; cases e⟩
  go_wp2_with fail
  refine (contains_own _ V v _ HV1.out (by have := H8.out; omega)).mono ?_
  rintro e y2 ⟨rfl, rfl⟩
  rw [rv]
  go_wp2_with fail
  refine (those_any _ L 60 #[] stB _ HL1.out (settled_fits _) (by have := H9.out; omega) eg60).mono ?_
  rintro e y3 ⟨u3, rfl, hu3, b⟩
  have HU3 := Lib.hid (ods_of_row rfl hu3)
  have HB3 := Lib.hid (keep2 b HB1.out)
  have HQ3 := Lib.hid (HQ1.out.step b)
  have HL3 := Lib.hid (HL1.out.step b)
  have HC3 := Lib.hid (HC1.out.step b)
  clear hu3 b q0 qz c0 c1 cz HB1 HQ1 HL1 HC1 HV1
  go_wp2_with fail
  refine (contains_f u3 (L.filter stB) 65 #[.pointer (some ⟨w.heap.size, 0, none⟩)] (rpT t) _ HU3.out (report1_fits t w.heap.size _ HQ3.out) eg65).mono ?_
  rintro e y4 ⟨rfl, b⟩
  have HB4 := Lib.hid (keep2 b HB3.out)
  have HQ4 := Lib.hid (HQ3.out.step b)
  have HL4 := Lib.hid (HL3.out.step b)
  have HC4 := Lib.hid (HC3.out.step b)
  clear b HB3 HQ3 HL3 HC3 HU3
  have q0 := HQ4.out.c 0 rfl
  have qz := HQ4.out.2.2
  have c0 := HC4.out.c 0 rfl
  have c1 := HC4.out.c 1 rfl
  have cz := HC4.out.2.2
  cases rs : (L.filter stB).any (rpT t)
  rotate_left
  · have HE := Lib.hid (show rpE V L v t = 28 by unfold rpE; rw [if_neg (by rw [ra]; exact Bool.noConfusion), rv, rs]; rfl)
    go_wp2
    exact bodyPost_ret (v := .int .i64 28) (by simp [results, Try.results46, go_sem]) rfl ⟨by rw [HE.out], Chg.of HB4.out, fun e => by rw [HE.out] at e; cases e⟩
  have HE := Lib.hid (show rpE V L v t = 0 by unfold rpE; rw [if_neg (by rw [ra]; exact Bool.noConfusion), rv, rs]; rfl)
  clear ra rv rs
  have HO5 := Lib.hid (Cs.new y4 y4.heap.size #[.int .i64 t, .int .i64 0, .int .i64 (-1), .int .i64 v] 27 rfl)
  have HA5 := Lib.hid (al y4 (.cells #[.int .i64 t, .int .i64 0, .int .i64 (-1), .int .i64 v] 27))
  have HB5 := Lib.hid (keep2 HA5.out HB4.out)
  have HC5 := Lib.hid (HC4.out.step HA5.out)
  have c0 := HC5.out.c 0 rfl
  have c1 := HC5.out.c 1 rfl
  have cz := HC5.out.2.2
  go_wp2_with fail
  clear c0 c1 cz
  have HKB := Lib.hid (show k < y4.heap.size from HC4.out.2.2)
  have HWB := Lib.hid HB4.out.size
  go_loopw [42] (fun iv wr => ∃ i : Nat, i ≤ L.length ∧ iv = .int .i64 i ∧ Hid (Cs wr y4.heap.size #[.int .i64 t, .int .i64 (rpB t (L.take i)), .int .i64 (-1), .int .i64 v]) ∧ Hid (Below y4.heap.size y4 wr)) (fun iv _ => L.length - (intOf iv).toNat)
  case atStart => exact ⟨0, by omega, rfl, Lib.hid HO5.out, Lib.hid HA5.out⟩
  case round =>
    obtain ⟨i, hi, rfl, HO, HB⟩ := hrel
    clear HO5 HA5 HB5 HC5
    have h300 := H9.out
    by_cases hlt : i < L.length
    · obtain ⟨a1, d1, hv1, -, -, hcs1⟩ := HL4.out.step HB.out
      obtain ⟨rfl, rfl⟩ : sa = a1 ∧ sc = d1 := by simpa using hv1
      obtain ⟨b1, o1, rfl, hx1⟩ := hcs1 (by intro e; rw [e] at hlt; simp at hlt)
      obtain ⟨z0, z1, z2, z3⟩ := hx1 i _ (od_get hlt)
      have yz : b1 < wr.heap.size := World.block_lt_of_cell? _ _ z0
      have t1 : (i : Int) < (L.length : Int) := by omega
      have HS := Lib.hid (rpB_step (t := t) hlt)
      clear hcs1 hx1 hv1
      generalize L.getD i zO = x at *
      generalize rpB t (L.take i) = B at *
      have HA := Lib.hid (al wr (.cells #[.int .i64 x.a, .int .i64 x.b, .int .i64 x.c, .int .i64 x.d] 27))
      have HXx := Lib.hid (Cs.new wr wr.heap.size #[.int .i64 x.a, .int .i64 x.b, .int .i64 x.c, .int .i64 x.d] 27 rfl)
      have HO1 := Lib.hid (HO.out.step HA.out)
      have HB1 := Lib.hid (HB.out.trans (HA.out.mono HB.out.size))
      have HQ1 := Lib.hid ((HQ4.out.step HB.out).step HA.out)
      have x0 := HXx.out.c 0 rfl
      have x1 := HXx.out.c 1 rfl
      have x2 := HXx.out.c 2 rfl
      have x3 := HXx.out.c 3 rfl
      have xz := HXx.out.2.2
      go_wp2_with fail
      refine (report1_any x t w.heap.size _ HQ1.out).mono ?_
      rintro e y5 ⟨rfl, b⟩
      have HO5 := Lib.hid (HO1.out.step b)
      have HX5 := Lib.hid (HXx.out.step b)
      have HB5 := Lib.hid (HB1.out.trans (b.mono HB1.out.size))
      clear b x0 x1 x2 x3 xz z0 z1 z2 z3 yz HO HA HXx HO1 HB1 HQ1
      cases hd : decide (t < x.a) with
      | true =>
        have HN := Lib.hid (show rpB t (L.take (i + 1)) = B from HS.out.trans (if_pos hd))
        go_wp2
        go_roundw
        case rel => exact ⟨i + 1, hlt, by go_num, by rw [HN.out]; exact HO5, HB5⟩
        case measure => simp [intOf]; omega
      | false =>
        have HN := Lib.hid (show rpB t (L.take (i + 1)) = max B x.b from HS.out.trans (if_neg (show ¬ rpT t x = true by unfold rpT; rw [hd]; exact Bool.noConfusion)))
        have x1 := HX5.out.c 1 rfl
        have xz := HX5.out.2.2
        have l1 := HO5.out.c 1 rfl
        have f1 := HO5.out.f 1 (by simp)
        have lz := HO5.out.2.2
        go_wp2
        go_roundw
        case rel => exact ⟨i + 1, hlt, by go_num, by rw [HN.out]; exact Lib.hid (Cs.set HO5.out 1 (by simp) (.int .i64 (max B x.b)) rfl), Lib.hid (HB5.out.setCell (p := ⟨y4.heap.size, 1, none⟩) (Nat.le_refl _) _)⟩
        case measure => simp [intOf]; omega
    · obtain rfl : i = L.length := by omega
      rw [List.take_length] at HO
      have HLr := Lib.hid (HL4.out.step HB.out)
      have HCr := Lib.hid (HC4.out.step HB.out)
      have HQr := Lib.hid (HQ4.out.step HB.out)
      have HBr := Lib.hid (HB4.out.trans (HB.out.mono HWB.out))
      have hm : Hid (rpM L v t = ⟨t, rpB t L, -1, v⟩ :: (flt L).filter (rpT t)) := Lib.hid rfl
      generalize rpB t L = B at *
      have c0 := HCr.out.c 0 rfl
      have c1 := HCr.out.c 1 rfl
      have cz := HCr.out.2.2
      have o0 := HO.out.c 0 rfl
      have o1 := HO.out.c 1 rfl
      have o2 := HO.out.c 2 rfl
      have o3 := HO.out.c 3 rfl
      have oz := HO.out.2.2
      clear h300
      have HLL := Lib.hid (show ([⟨t, B, -1, v⟩] : List Od).length + ((flt L).filter (rpT t)).length ≤ 100000 by have := H9.out; have := List.length_filter_le (fun x => !stB x) L; have := List.length_filter_le (rpT t) (flt L); unfold flt at *; simp only [List.length_cons, List.length_nil]; omega)
      go_wp2_with fail
      go_region_law (first | (go_simp; go_at_call 56; refine (flying_any k _ _ L _ (HCr.out.step (by first | exact Below.refl _ _ | exact below_drew _ _ | exact al _ _ | exact (al _ _).trans (below_drew _ _))) (HLr.out.step (by first | exact Below.refl _ _ | exact below_drew _ _ | exact al _ _ | exact (al _ _).trans (below_drew _ _))) (by have := H9.out; omega)).mono ?_; rintro e w3 ⟨u, rfl, hu, b3⟩; have HU3 := Lib.hid (ods_of_row rfl hu); have HW3 := Lib.hid (show Below wr.heap.size wr w3 from by first | exact b3 | exact (below_drew _ _).trans b3 | exact keep2 b3 (al _ _) | exact keep2 b3 ((al _ _).trans (below_drew _ _))); (first | (have HN3 := Lib.hid (row_step (row_step (row_one wr ⟨t, B, -1, v⟩ wr.heap.size (Nat.le_refl _)) (below_drew _ _)) b3)) | skip); have m0w3 : w3.cell? ⟨y4.heap.size, 0, none⟩ = some (.int .i64 t) := (HO.out.step HW3.out).c 0 rfl; have m1w3 : w3.cell? ⟨y4.heap.size, 1, none⟩ = some (.int .i64 B) := (HO.out.step HW3.out).c 1 rfl; have m2w3 : w3.cell? ⟨y4.heap.size, 2, none⟩ = some (.int .i64 (-1)) := (HO.out.step HW3.out).c 2 rfl; have m3w3 : w3.cell? ⟨y4.heap.size, 3, none⟩ = some (.int .i64 v) := (HO.out.step HW3.out).c 3 rfl; have mzw3 : y4.heap.size < w3.heap.size := (HO.out.step HW3.out).2.2; clear hu b3) | (go_simp; go_at_call 61; refine (those_any u (flt L) 65 #[.pointer (some ⟨w.heap.size, 0, none⟩)] (rpT t) _ (HU3.out.step (by first | exact Below.refl _ _ | exact below_drew _ _ | exact al _ _ | exact (al _ _).trans (below_drew _ _))) (report1_fits t w.heap.size _ ((HQr.out.step HW3.out).step (by first | exact Below.refl _ _ | exact below_drew _ _ | exact al _ _ | exact (al _ _).trans (below_drew _ _)))) (by have := H9.out; have := List.length_filter_le (fun x => !stB x) L; unfold flt; omega) eg65).mono ?_; rintro e w5 ⟨u5, rfl, hu, b5⟩; obtain ⟨a5, c5, rfl⟩ := row_slice hu; have HU5 := Lib.hid (ods_of_row rfl hu); have HW5 := Lib.hid (show Below wr.heap.size wr w5 from by first | exact keep2 b5 HW3.out | exact keep2 (keep2 b5 (al _ _)) HW3.out | exact keep2 ((below_drew _ _).trans b5) HW3.out); (first | (have HN5 := Lib.hid (row_step HN3.out b5)) | (have HN5 := Lib.hid (row_step (row_one w3 ⟨t, B, -1, v⟩ wr.heap.size HW3.out.size) b5)) | skip); have m0w5 : w5.cell? ⟨y4.heap.size, 0, none⟩ = some (.int .i64 t) := (HO.out.step HW5.out).c 0 rfl; have m1w5 : w5.cell? ⟨y4.heap.size, 1, none⟩ = some (.int .i64 B) := (HO.out.step HW5.out).c 1 rfl; have m2w5 : w5.cell? ⟨y4.heap.size, 2, none⟩ = some (.int .i64 (-1)) := (HO.out.step HW5.out).c 2 rfl; have m3w5 : w5.cell? ⟨y4.heap.size, 3, none⟩ = some (.int .i64 v) := (HO.out.step HW5.out).c 3 rfl; have mzw5 : y4.heap.size < w5.heap.size := (HO.out.step HW5.out).2.2; clear hu b5) | ((first | refine step_app_list rfl (.tmp 59) (.tmp 63) rfl wr.heap.size [⟨t, B, -1, v⟩] ((flt L).filter (rpT t)) (.slice (some ⟨wr.heap.size, 0, none⟩) 1 1) a5 c5 (by simp [Act.eval]) (by simp [Act.eval]) (HN5.out) (HU5.out.step (by first | exact Below.refl _ _ | exact below_drew _ _ | exact al _ _ | exact (al _ _).trans (below_drew _ _))) HLL.out (by have := HW5.out.size; simp; omega) ?_ | refine step_app_list rfl (.tmp 59) (.tmp 63) rfl wr.heap.size [⟨t, B, -1, v⟩] ((flt L).filter (rpT t)) (.slice (some ⟨w3.heap.size, 0, none⟩) 1 1) a5 c5 (by simp [Act.eval]) (by simp [Act.eval]) (HN5.out) (HU5.out.step (by first | exact Below.refl _ _ | exact below_drew _ _ | exact al _ _ | exact (al _ _).trans (below_drew _ _))) HLL.out (by have := HW5.out.size; simp; omega) ?_ | refine step_app_list rfl (.tmp 59) (.tmp 63) rfl wr.heap.size [⟨t, B, -1, v⟩] ((flt L).filter (rpT t)) (.slice (some ⟨w5.heap.size, 0, none⟩) 1 1) a5 c5 (by simp [Act.eval]) (by simp [Act.eval]) (row_one w5 ⟨t, B, -1, v⟩ wr.heap.size HW5.out.size) (HU5.out.step (by first | exact Below.refl _ _ | exact below_drew _ _ | exact al _ _ | exact (al _ _).trans (below_drew _ _))) HLL.out (by have := HW5.out.size; simp; omega) ?_); rintro v' w7 ho b7; obtain ⟨fa, fc, rfl⟩ := row_slice ho; have HO7 := Lib.hid ho; have HW7 := Lib.hid (show Below wr.heap.size wr w7 from by first | exact HW5.out.trans b7 | exact (HW5.out.alloc HW5.out.size _).trans b7); clear ho b7) | (go_simp; go_at_call 49; refine (become_n k _ _ fa fc _ ([⟨t, B, -1, v⟩] ++ (flt L).filter (rpT t)) (by simp) _ (HCr.out.step HW7.out) (ods_of_row rfl HO7.out) (by have := HLL.out; rw [List.length_append]; omega)).mono ?_; rintro e w8 ⟨rfl, hbel, hchg⟩; have HB8 := Lib.hid hbel; have HC8 := Lib.hid hchg; clear hbel hchg))
      all_goals go_wp2
      all_goals exact bodyPost_ret (v := .int .i64 0) (by simp [results, Try.results46, go_sem]) rfl (by rw [hm.out]; exact done_of HBr.out HX.out HW7.out HO7.out HB8.out HC8.out HE.out)
open Go.RowKit

set_option maxRecDepth 100000 in
set_option maxHeartbeats 8000000 in
theorem sent1_any (k ko : Nat) (v1 : Value) (sa : Option Addr) (sc : Nat) (L : List Od) (o : Od) (w : World) (hO : Cs w ko #[.int .i64 o.a, .int .i64 o.b, .int .i64 o.c, .int .i64 o.d]) (hC : Cs w k #[v1, .slice sa L.length sc]) (h : OdsAt w (.slice sa L.length sc) L) (h9 : L.length ≤ 1000) :
    Calls Try.prog 38 #[.pointer (some ⟨k, 0, none⟩), .pointer (some ⟨ko, 0, none⟩)] w (Done k w (sdE L o) (L ++ [o])) := by
  have HC := Lib.hid hC
  have HL := Lib.hid h
  have H9 := Lib.hid h9
  have o0 := hO.c 0 rfl
  have o1 := hO.c 1 rfl
  have o2 := hO.c 2 rfl
  have o3 := hO.c 3 rfl
  have oz := hO.2.2
  clear hC h hO h9
  go_enter Try.func38, Try.ntmps38
  go_wp2_with fail
  refine (send_any k v1 sa sc L o _ HC.out HL.out H9.out).mono ?_
  rintro e w2 ⟨rfl, h1, h2⟩
  have H1 := Lib.hid h1
  have H2 := Lib.hid h2
  clear h1 h2
  go_wp2
  go_ret
  exact ⟨rfl, H1.out, H2.out⟩
set_option maxRecDepth 100000 in
set_option maxHeartbeats 8000000 in
theorem confirmed1_any (k ko : Nat) (v1 : Value) (sa : Option Addr) (sc : Nat) (L : List Od) (seq : Int) (w : World) (hO : Cs w ko #[.int .i64 seq]) (hC : Cs w k #[v1, .slice sa L.length sc]) (h : OdsAt w (.slice sa L.length sc) L) (h9 : L.length ≤ 300) (hb9 : ∀ x ∈ L, -1000 ≤ x.a ∧ x.a ≤ 1000000000) :
    Calls Try.prog 43 #[.pointer (some ⟨k, 0, none⟩), .pointer (some ⟨ko, 0, none⟩)] w (Done k w (cfE seq L) (cfM seq L)) := by
  have HC := Lib.hid hC
  have HL := Lib.hid h
  have H9 := Lib.hid h9
  have HV := Lib.hid hb9
  have o0 := hO.c 0 rfl
  have oz := hO.2.2
  clear hC h hO h9 hb9
  go_enter Try.func43, Try.ntmps43
  go_wp2_with fail
  refine (confirm_any k v1 sa sc L seq _ HC.out HL.out H9.out HV.out).mono ?_
  rintro e w2 ⟨rfl, h1, h2⟩
  have H1 := Lib.hid h1
  have H2 := Lib.hid h2
  clear h1 h2
  go_wp2
  go_ret
  exact ⟨rfl, H1.out, H2.out⟩
set_option maxRecDepth 100000 in
set_option maxHeartbeats 8000000 in
theorem reported1_any (k k1 k2 : Nat) (va : Option Addr) (vc : Nat) (V : List Int) (sa : Option Addr) (sc : Nat) (L : List Od) (v t : Int) (w : World) (hO : Cs w k1 #[.int .i64 v]) (hP : Cs w k2 #[.int .i64 t]) (hC : Cs w k #[.slice va V.length vc, .slice sa L.length sc]) (h : OdsAt w (.slice sa L.length sc) L) (hV : IntsAt w (.slice va V.length vc) V) (h9 : L.length ≤ 300) (h8 : V.length ≤ 300) :
    Calls Try.prog 45 #[.pointer (some ⟨k, 0, none⟩), .pointer (some ⟨k1, 0, none⟩), .pointer (some ⟨k2, 0, none⟩)] w (Done k w (rpE V L v t) (rpM L v t)) := by
  have HC := Lib.hid hC
  have HL := Lib.hid h
  have HV := Lib.hid hV
  have H9 := Lib.hid h9
  have H8 := Lib.hid h8
  have o0 := hO.c 0 rfl
  have oz := hO.2.2
  have p0 := hP.c 0 rfl
  have pz := hP.2.2
  clear hC h hO hP h9 hV h8
  go_enter Try.func45, Try.ntmps45
  go_wp2_with fail
  refine (report_any k va vc V sa sc L v t _ HC.out HL.out HV.out H9.out H8.out).mono ?_
  rintro e w2 ⟨rfl, h1, h2⟩
  have H1 := Lib.hid h1
  have H2 := Lib.hid h2
  clear h1 h2
  go_wp2
  go_ret
  exact ⟨rfl, H1.out, H2.out⟩
open Go.RowKit

/-- A belief with records. -/
def BelV (w : World) (B : Nat) (bv : Value) (M : List Od) : Prop :=
  ∃ (ua : Option Addr) (uc : Nat) (fa : Option Addr) (fc : Nat), bv = .agg #[.slice ua (vof M).length uc, .slice fa M.length fc] ∧ IntsAt w (.slice ua (vof M).length uc) (vof M) ∧ OdsAt w (.slice fa M.length fc) M ∧ (∀ g o, ua = some ⟨g, o, none⟩ → B ≤ g) ∧ ∀ g o, fa = some ⟨g, o, none⟩ → B ≤ g
def zB : Value := .agg #[.slice none 0 0, .slice none 0 0]
/-- A belief and an error number are returned. -/
def ChP (w : World) (E : Int) (M : List Od) (e : Ending) (w' : World) : Prop :=
  ∃ bv, e = .returned (.tuple #[bv, .int .i64 E]) ∧ Below w.heap.size w w' ∧ (E ≠ 0 → bv = zB) ∧ (E = 0 → BelV w' w.heap.size bv M)
set_option maxRecDepth 100000 in
set_option maxHeartbeats 8000000 in
theorem changed_any (n : Nat) (caps : Array Value) (va : Option Addr) (vc : Nat) (V : List Int) (sa : Option Addr) (sc : Nat) (L : List Od) (E R : Int) (M : List Od) (w : World) (hR1 : isV V L = true → R = E) (hR2 : isV V L = false → R = 1)
    (h : OdsAt w (.slice sa L.length sc) L) (hV : IntsAt w (.slice va V.length vc) V) (h9 : L.length ≤ 300) (h8 : V.length ≤ 300) (heg : ∀ args w, (callFunc n args).run Try.prog w = .ok (.enter n args) w)
    (hF : ∀ k w1, w.heap.size ≤ k → Below w.heap.size w w1 → Cs w1 k #[.slice va V.length vc, .slice sa L.length sc] → OdsAt w1 (.slice sa L.length sc) L → IntsAt w1 (.slice va V.length vc) V → isV V L = true → Calls Try.prog n (#[.pointer (some ⟨k, 0, none⟩)] ++ caps) w1 (Done k w1 E M)) :
    Calls Try.prog 37 #[.agg #[.slice va V.length vc, .slice sa L.length sc], .func (.func n) #[] caps] w (ChP w R M) := by
  obtain ⟨w0, hw0⟩ : ∃ w0, ((w.alloc (.cells #[.slice va V.length vc, .slice sa L.length sc] 25)).alloc (.cells #[.slice none 0 0, .slice none 0 0] 25)).alloc (.cells #[.slice va V.length vc, .slice sa L.length sc] 73) = w0 := ⟨_, rfl⟩
  have HB0 := Lib.hid (show Below w.heap.size w w0 by rw [← hw0]; exact al3)
  have HC0 := Lib.hid (show Cs w0 (w.heap.size + 1 + 1) #[.slice va V.length vc, .slice sa L.length sc] by rw [← hw0]; exact Cs.new _ _ _ _ (by simp))
  have HR0 := Lib.hid (show Cs w0 (w.heap.size + 1) #[.slice none 0 0, .slice none 0 0] by rw [← hw0]; exact (Cs.new _ _ _ _ (by simp)).alloc _)
  have HL0 := Lib.hid (h.step HB0.out)
  have HV0 := Lib.hid (hV.step HB0.out)
  have HF := Lib.hid hF
  have b0 : (w.alloc (.cells #[.slice va V.length vc, .slice sa L.length sc] 25)).cell? ⟨w.heap.size, 0, none⟩ = some (.slice va V.length vc) := (Cs.new _ _ _ _ rfl).c 0 rfl
  have b1 : (w.alloc (.cells #[.slice va V.length vc, .slice sa L.length sc] 25)).cell? ⟨w.heap.size, 1, none⟩ = some (.slice sa L.length sc) := (Cs.new _ _ _ _ rfl).c 1 rfl
  have hLm : L.length ≤ 100000 := by omega
  have hVm : V.length ≤ 100000 := by omega
  have HR1 := Lib.hid hR1
  have HR2 := Lib.hid hR2
  clear h hV hF hR1 hR2
  go_enter Try.func37, Try.ntmps37
  go_wp2_with fail
  refine (isValid_any (w.heap.size + 1 + 1) va vc V sa sc L _ HC0.out HL0.out HV0.out hLm hVm).mono ?_
  rintro e y1 ⟨rfl, b⟩
  have HB1 := Lib.hid (keep2 b HB0.out)
  have HC1 := Lib.hid (HC0.out.step b)
  have HS1 := Lib.hid (HR0.out.step b)
  have HL1 := Lib.hid (HL0.out.step b)
  have HV1 := Lib.hid (HV0.out.step b)
  clear b b0 b1 hw0 HB0 HC0 HR0 HL0 HV0
  have s0 := HS1.out.c 0 rfl
  have s1 := HS1.out.c 1 rfl
  have g0 := HS1.out.f 0 (by simp)
  have g1 := HS1.out.f 1 (by simp)
  have sz := HS1.out.2.2
  cases hv : isV V L
  · have HE := Lib.hid (HR2.out hv)
    go_wp2
    refine (fun (h : ∀ V : World, Cs V (w.heap.size + 1) #[.slice none 0 0, .slice none 0 0] → Chg (w.heap.size + 1) y1 V → bodyPost Try.prog Try.f37 _ Exit.ret _ V) => h _ (Cs.set (Cs.set HS1.out 0 (by simp) (.slice none 0 0) rfl) 1 (by simp) (.slice none 0 0) (vs' := #[.slice none 0 0, .slice none 0 0]) rfl) (((Chg.of (Below.refl _ y1)).set 0 _).set 1 _)) ?_
    intro V hC hB
    have k0 : V.cell? ⟨w.heap.size + 1, 0, none⟩ = some (.slice none 0 0) := hC.c 0 rfl
    have k1 : V.cell? ⟨w.heap.size + 1, 1, none⟩ = some (.slice none 0 0) := hC.c 1 rfl
    exact bodyPost_ret (v := .tuple #[.agg #[.slice none 0 0, .slice none 0 0], .int .i64 1]) (by simp [results, Try.results37, go_sem, k0, k1]) rfl ⟨zB, by rw [HE.out]; rfl, HB1.out.trans (hB.below (by omega) HB1.out.size), fun _ => rfl, fun e => by rw [HE.out] at e; cases e⟩
  · have HE := Lib.hid (HR1.out hv)
    have HG := Lib.hid (HF.out (w.heap.size + 1 + 1) y1 (by omega) HB1.out HC1.out HL1.out HV1.out hv)
    go_wp2_with fail
    refine HG.out.mono ?_
    rintro e y2 ⟨rfl, hc, hd⟩
    have HS2 := Lib.hid (hc.cs (show w.heap.size + 1 ≠ w.heap.size + 1 + 1 by omega) HS1.out)
    have HB2 := Lib.hid (HB1.out.trans (hc.below (by omega) HB1.out.size))
    have hs1 : w.heap.size + 1 < y1.heap.size := HS1.out.2.2
    have HGE := Lib.hid hs1
    clear s0 s1 g0 g1 sz hs1
    have s0 := HS2.out.c 0 rfl
    have s1 := HS2.out.c 1 rfl
    have g0 := HS2.out.f 0 (by simp)
    have g1 := HS2.out.f 1 (by simp)
    have sz := HS2.out.2.2
    by_cases hz : E = 0
    · obtain ⟨fa, fc, ⟨ua, uc, hbc, hbi, hua⟩, hod, hfa⟩ := hd hz
      subst hz
      have HBC := Lib.hid hbc
      have HBI := Lib.hid hbi
      have HOD := Lib.hid hod
      have HUA := Lib.hid hua
      have HFA := Lib.hid hfa
      have m0 := hbc.c 0 rfl
      have m1 := hbc.c 1 rfl
      have mz := hbc.2.2
      clear hbc hbi hod hua hfa hc hd HG
      go_wp2
      refine (fun (h : ∀ V : World, Cs V (w.heap.size + 1) #[.slice ua (vof M).length uc, .slice fa M.length fc] → Chg (w.heap.size + 1) y2 V → bodyPost Try.prog Try.f37 _ Exit.ret _ V) => h _ (Cs.set (Cs.set HS2.out 0 (by simp) (.slice ua (vof M).length uc) rfl) 1 (by simp) (.slice fa M.length fc) (vs' := #[.slice ua (vof M).length uc, .slice fa M.length fc]) rfl) (((Chg.of (Below.refl _ y2)).set 0 _).set 1 _)) ?_
      intro V hC hB
      have k0 : V.cell? ⟨w.heap.size + 1, 0, none⟩ = some (.slice ua (vof M).length uc) := hC.c 0 rfl
      have k1 : V.cell? ⟨w.heap.size + 1, 1, none⟩ = some (.slice fa M.length fc) := hC.c 1 rfl
      exact bodyPost_ret (v := .tuple #[.agg #[.slice ua (vof M).length uc, .slice fa M.length fc], .int .i64 0]) (by simp [results, Try.results37, go_sem, k0, k1]) rfl ⟨(.agg #[.slice ua (vof M).length uc, .slice fa M.length fc]), by rw [HE.out], HB2.out.trans (hB.below (by omega) HB2.out.size), fun e => absurd HE.out e, fun _ => ⟨ua, uc, fa, fc, rfl, hB.ints (fun g o e h => by have := HUA.out g o e; have := HGE.out; omega) HBI.out, hB.ods (fun g o e h => by have := HFA.out g o e; have := HGE.out; omega) HOD.out, fun g o e => Nat.le_trans HB1.out.size (HUA.out g o e), fun g o e => Nat.le_trans HB1.out.size (HFA.out g o e)⟩⟩
    · clear hc hd HG
      go_wp2
      refine (fun (h : ∀ V : World, Cs V (w.heap.size + 1) #[.slice none 0 0, .slice none 0 0] → Chg (w.heap.size + 1) y2 V → bodyPost Try.prog Try.f37 _ Exit.ret _ V) => h _ (Cs.set (Cs.set HS2.out 0 (by simp) (.slice none 0 0) rfl) 1 (by simp) (.slice none 0 0) (vs' := #[.slice none 0 0, .slice none 0 0]) rfl) (((Chg.of (Below.refl _ y2)).set 0 _).set 1 _)) ?_
      intro V hC hB
      have k0 : V.cell? ⟨w.heap.size + 1, 0, none⟩ = some (.slice none 0 0) := hC.c 0 rfl
      have k1 : V.cell? ⟨w.heap.size + 1, 1, none⟩ = some (.slice none 0 0) := hC.c 1 rfl
      exact bodyPost_ret (v := .tuple #[.agg #[.slice none 0 0, .slice none 0 0], .int .i64 E]) (by simp [results, Try.results37, go_sem, k0, k1]) rfl ⟨zB, by rw [HE.out]; rfl, HB2.out.trans (hB.below (by omega) HB2.out.size), fun _ => rfl, fun e => absurd (HE.out.symm.trans e) hz⟩
open Go.RowKit

theorem eg38 : ∀ (args : Array Value) (w : World), (callFunc 38 args).run Try.prog w = .ok (.enter 38 args) w := fun _ _ => by kernel_rfl
theorem eg43 : ∀ (args : Array Value) (w : World), (callFunc 43 args).run Try.prog w = .ok (.enter 43 args) w := fun _ _ => by kernel_rfl
theorem eg45 : ∀ (args : Array Value) (w : World), (callFunc 45 args).run Try.prog w = .ok (.enter 45 args) w := fun _ _ => by kernel_rfl
theorem wk_num : ∀ (L : List Od) (l : Od), wk l L = true → ∀ x ∈ L, -1000 ≤ x.a ∧ x.a ≤ 1000000000 := by
  intro L
  induction L with
  | nil => intro l _ x hx; cases hx
  | cons y L ih =>
    intro l h x hx
    unfold wk at h
    rw [Bool.and_eq_true] at h
    have h1 := h.1
    unfold okR at h1
    simp only [Bool.and_eq_true, inr_iff] at h1
    rcases List.mem_cons.1 hx with rfl | hx
    · have := h1.1.1.1; omega
    · by_cases hs : stB y = true
      · rw [if_pos hs] at h; exact ih _ h.2 x hx
      · rw [if_neg hs, Bool.and_eq_true] at h; exact ih _ h.2.2 x hx
theorem isV_num {V : List Int} {L : List Od} (h : isV V L = true) : ∀ x ∈ L, -1000 ≤ x.a ∧ x.a ≤ 1000000000 := by
  unfold isV at h
  simp only [Bool.and_eq_true] at h
  exact wk_num L l0 h.1.2
open Go.RowKit

/-- What 'Sent' answers. -/
def snE (V : List Int) (L : List Od) (o : Od) : Int := if isV V L = true then sdE L o else 1
set_option maxRecDepth 100000 in
set_option maxHeartbeats 8000000 in
theorem sent_any (va : Option Addr) (vc : Nat) (V : List Int) (sa : Option Addr) (sc : Nat) (L : List Od) (o : Od) (w : World) (h : OdsAt w (.slice sa L.length sc) L) (hV : IntsAt w (.slice va V.length vc) V) (h9 : L.length ≤ 300) (h8 : V.length ≤ 300) (M : List Od) (hM : L ++ [o] = M) :
    Calls Try.prog 11 #[.agg #[.slice va V.length vc, .slice sa L.length sc], .agg #[.int .i64 o.a, .int .i64 o.b, .int .i64 o.c, .int .i64 o.d]] w (ChP w (snE V L o) M) := by
  have HM := Lib.hid hM
  clear hM
  obtain ⟨w0, hw0⟩ : ∃ w0, (((w.alloc (.cells #[.slice va V.length vc, .slice sa L.length sc] 25)).alloc (.cells #[.int .i64 o.a, .int .i64 o.b, .int .i64 o.c, .int .i64 o.d] 27)).alloc (.cells #[.slice none 0 0, .slice none 0 0] 25)) = w0 := ⟨_, rfl⟩
  have HB0 := Lib.hid (show Below w.heap.size w w0 by rw [← hw0]; exact al3)
  have HO0 := Lib.hid (show Cs w0 (w.heap.size + 1) #[.int .i64 o.a, .int .i64 o.b, .int .i64 o.c, .int .i64 o.d] by rw [← hw0]; exact (Cs.new _ _ _ _ (by simp)).alloc _)
  have HR0 := Lib.hid (show Cs w0 (w.heap.size + 1 + 1) #[.slice none 0 0, .slice none 0 0] by rw [← hw0]; exact Cs.new _ _ _ _ (by simp))
  have HX0 := Lib.hid (show Cs w0 w.heap.size #[.slice va V.length vc, .slice sa L.length sc] by rw [← hw0]; exact ((Cs.new _ _ _ _ rfl).alloc _).alloc _)
  have b0 := HX0.out.c 0 rfl
  have b1 := HX0.out.c 1 rfl
  have bz := HX0.out.2.2
  have HL0 := Lib.hid (h.step HB0.out)
  have HV0 := Lib.hid (hV.step HB0.out)
  have HR1 := Lib.hid (show isV V L = true → snE V L o = sdE L o from fun h => by unfold snE; rw [if_pos h])
  have HR2 := Lib.hid (show isV V L = false → snE V L o = 1 from fun h => by unfold snE; rw [if_neg (by rw [h]; exact Bool.noConfusion)])
  generalize snE V L o = R at *
  clear h hV
  go_enter Try.func11, Try.ntmps11
  go_wp2_with fail
  refine (changed_any 38 #[.pointer (some ⟨w.heap.size + 1, 0, none⟩)] va vc V sa sc L (sdE L o) R M w0 HR1.out HR2.out HL0.out HV0.out h9 h8 eg38 (fun k w1 hk hb hc hl hv _ => by have := sent1_any k (w.heap.size + 1) _ sa sc L o w1 (HO0.out.step hb) hc hl (by omega); rw [HM.out] at this; exact this)).mono ?_
  rintro e w2 ⟨bv, rfl, hb, h1, h2⟩
  have HB := Lib.hid (keep2 hb HB0.out)
  have H1 := Lib.hid h1
  have H2 := Lib.hid h2
  have HS := Lib.hid (HR0.out.step hb)
  clear hb h1 h2 hw0
  have s0 := HS.out.c 0 rfl
  have s1 := HS.out.c 1 rfl
  have g0 := HS.out.f 0 (by simp)
  have g1 := HS.out.f 1 (by simp)
  have sz := HS.out.2.2
  clear b0 b1 bz
  by_cases hz : R = 0
  · obtain ⟨ua, uc, fa, fc, rfl, hi, ho, ku, kf⟩ := H2.out hz
    have HI := Lib.hid hi
    have HOO := Lib.hid ho
    have HKU := Lib.hid ku
    have HKF := Lib.hid kf
    have HZ := Lib.hid HR0.out.2.2
    clear hi ho ku kf
    go_wp2
    refine (fun (h : ∀ X : World, Cs X (w.heap.size + 1 + 1) #[.slice ua (vof M).length uc, .slice fa M.length fc] → Chg (w.heap.size + 1 + 1) w2 X → bodyPost Try.prog Try.f11 _ Exit.ret _ X) => h _ (Cs.set (Cs.set HS.out 0 (by simp) (.slice ua (vof M).length uc) rfl) 1 (by simp) (.slice fa M.length fc) (vs' := #[.slice ua (vof M).length uc, .slice fa M.length fc]) rfl) (((Chg.of (Below.refl _ w2)).set 0 _).set 1 _)) ?_
    intro X hC hB
    have k0 : X.cell? ⟨w.heap.size + 1 + 1, 0, none⟩ = some (.slice ua (vof M).length uc) := hC.c 0 rfl
    have k1 : X.cell? ⟨w.heap.size + 1 + 1, 1, none⟩ = some (.slice fa M.length fc) := hC.c 1 rfl
    exact bodyPost_ret (v := .tuple #[.agg #[.slice ua (vof M).length uc, .slice fa M.length fc], .int .i64 0]) (by simp [results, Try.results11, go_sem, k0, k1]) rfl ⟨(.agg #[.slice ua (vof M).length uc, .slice fa M.length fc]), by rw [hz], HB.out.trans (hB.below (by omega) HB.out.size), fun e => absurd hz e, fun _ => ⟨ua, uc, fa, fc, rfl, hB.ints (fun g o e h => by have := HKU.out g o e; have := HZ.out; omega) HI.out, hB.ods (fun g o e h => by have := HKF.out g o e; have := HZ.out; omega) HOO.out, fun g o e => Nat.le_trans HB0.out.size (HKU.out g o e), fun g o e => Nat.le_trans HB0.out.size (HKF.out g o e)⟩⟩
  · obtain rfl := H1.out hz
    unfold zB
    go_wp2
    refine (fun (h : ∀ X : World, Cs X (w.heap.size + 1 + 1) #[.slice none 0 0, .slice none 0 0] → Chg (w.heap.size + 1 + 1) w2 X → bodyPost Try.prog Try.f11 _ Exit.ret _ X) => h _ (Cs.set (Cs.set HS.out 0 (by simp) (.slice none 0 0) rfl) 1 (by simp) (.slice none 0 0) (vs' := #[.slice none 0 0, .slice none 0 0]) rfl) (((Chg.of (Below.refl _ w2)).set 0 _).set 1 _)) ?_
    intro X hC hB
    have k0 : X.cell? ⟨w.heap.size + 1 + 1, 0, none⟩ = some (.slice none 0 0) := hC.c 0 rfl
    have k1 : X.cell? ⟨w.heap.size + 1 + 1, 1, none⟩ = some (.slice none 0 0) := hC.c 1 rfl
    exact bodyPost_ret (v := .tuple #[.agg #[.slice none 0 0, .slice none 0 0], .int .i64 R]) (by simp [results, Try.results11, go_sem, k0, k1]) rfl ⟨zB, rfl, HB.out.trans (hB.below (by omega) HB.out.size), fun _ => rfl, fun e => absurd e hz⟩
open Go.RowKit

/-- What 'Confirmed' answers. -/
def cnE (V : List Int) (L : List Od) (q : Int) : Int := if isV V L = true then cfE q L else 1
set_option maxRecDepth 100000 in
set_option maxHeartbeats 8000000 in
theorem confirmed_any (va : Option Addr) (vc : Nat) (V : List Int) (sa : Option Addr) (sc : Nat) (L : List Od) (q : Int) (w : World) (h : OdsAt w (.slice sa L.length sc) L) (hV : IntsAt w (.slice va V.length vc) V) (h9 : L.length ≤ 300) (h8 : V.length ≤ 300) (M : List Od) (hM : cfM q L = M) :
    Calls Try.prog 13 #[.agg #[.slice va V.length vc, .slice sa L.length sc], .int .i64 q] w (ChP w (cnE V L q) M) := by
  have HM := Lib.hid hM
  clear hM
  obtain ⟨w0, hw0⟩ : ∃ w0, (((w.alloc (.cells #[.slice va V.length vc, .slice sa L.length sc] 25)).alloc (.cells #[.int .i64 q] 3)).alloc (.cells #[.slice none 0 0, .slice none 0 0] 25)) = w0 := ⟨_, rfl⟩
  have HB0 := Lib.hid (show Below w.heap.size w w0 by rw [← hw0]; exact al3)
  have HO0 := Lib.hid (show Cs w0 (w.heap.size + 1) #[.int .i64 q] by rw [← hw0]; exact (Cs.new _ _ _ _ (by simp)).alloc _)
  have HR0 := Lib.hid (show Cs w0 (w.heap.size + 1 + 1) #[.slice none 0 0, .slice none 0 0] by rw [← hw0]; exact Cs.new _ _ _ _ (by simp))
  have HX0 := Lib.hid (show Cs w0 w.heap.size #[.slice va V.length vc, .slice sa L.length sc] by rw [← hw0]; exact ((Cs.new _ _ _ _ rfl).alloc _).alloc _)
  have b0 := HX0.out.c 0 rfl
  have b1 := HX0.out.c 1 rfl
  have bz := HX0.out.2.2
  have HL0 := Lib.hid (h.step HB0.out)
  have HV0 := Lib.hid (hV.step HB0.out)
  have HR1 := Lib.hid (show isV V L = true → cnE V L q = cfE q L from fun h => by unfold cnE; rw [if_pos h])
  have HR2 := Lib.hid (show isV V L = false → cnE V L q = 1 from fun h => by unfold cnE; rw [if_neg (by rw [h]; exact Bool.noConfusion)])
  generalize cnE V L q = R at *
  clear h hV
  go_enter Try.func13, Try.ntmps13
  go_wp2_with fail
  refine (changed_any 43 #[.pointer (some ⟨w.heap.size + 1, 0, none⟩)] va vc V sa sc L (cfE q L) R M w0 HR1.out HR2.out HL0.out HV0.out h9 h8 eg43 (fun k w1 hk hb hc hl hv hisv => by have := confirmed1_any k (w.heap.size + 1) _ sa sc L q w1 (HO0.out.step hb) hc hl h9 (isV_num hisv); rw [HM.out] at this; exact this)).mono ?_
  rintro e w2 ⟨bv, rfl, hb, h1, h2⟩
  have HB := Lib.hid (keep2 hb HB0.out)
  have H1 := Lib.hid h1
  have H2 := Lib.hid h2
  have HS := Lib.hid (HR0.out.step hb)
  clear hb h1 h2 hw0
  have s0 := HS.out.c 0 rfl
  have s1 := HS.out.c 1 rfl
  have g0 := HS.out.f 0 (by simp)
  have g1 := HS.out.f 1 (by simp)
  have sz := HS.out.2.2
  clear b0 b1 bz
  by_cases hz : R = 0
  · obtain ⟨ua, uc, fa, fc, rfl, hi, ho, ku, kf⟩ := H2.out hz
    have HI := Lib.hid hi
    have HOO := Lib.hid ho
    have HKU := Lib.hid ku
    have HKF := Lib.hid kf
    have HZ := Lib.hid HR0.out.2.2
    clear hi ho ku kf
    go_wp2
    refine (fun (h : ∀ X : World, Cs X (w.heap.size + 1 + 1) #[.slice ua (vof M).length uc, .slice fa M.length fc] → Chg (w.heap.size + 1 + 1) w2 X → bodyPost Try.prog Try.f13 _ Exit.ret _ X) => h _ (Cs.set (Cs.set HS.out 0 (by simp) (.slice ua (vof M).length uc) rfl) 1 (by simp) (.slice fa M.length fc) (vs' := #[.slice ua (vof M).length uc, .slice fa M.length fc]) rfl) (((Chg.of (Below.refl _ w2)).set 0 _).set 1 _)) ?_
    intro X hC hB
    have k0 : X.cell? ⟨w.heap.size + 1 + 1, 0, none⟩ = some (.slice ua (vof M).length uc) := hC.c 0 rfl
    have k1 : X.cell? ⟨w.heap.size + 1 + 1, 1, none⟩ = some (.slice fa M.length fc) := hC.c 1 rfl
    exact bodyPost_ret (v := .tuple #[.agg #[.slice ua (vof M).length uc, .slice fa M.length fc], .int .i64 0]) (by simp [results, Try.results13, go_sem, k0, k1]) rfl ⟨(.agg #[.slice ua (vof M).length uc, .slice fa M.length fc]), by rw [hz], HB.out.trans (hB.below (by omega) HB.out.size), fun e => absurd hz e, fun _ => ⟨ua, uc, fa, fc, rfl, hB.ints (fun g o e h => by have := HKU.out g o e; have := HZ.out; omega) HI.out, hB.ods (fun g o e h => by have := HKF.out g o e; have := HZ.out; omega) HOO.out, fun g o e => Nat.le_trans HB0.out.size (HKU.out g o e), fun g o e => Nat.le_trans HB0.out.size (HKF.out g o e)⟩⟩
  · obtain rfl := H1.out hz
    unfold zB
    go_wp2
    refine (fun (h : ∀ X : World, Cs X (w.heap.size + 1 + 1) #[.slice none 0 0, .slice none 0 0] → Chg (w.heap.size + 1 + 1) w2 X → bodyPost Try.prog Try.f13 _ Exit.ret _ X) => h _ (Cs.set (Cs.set HS.out 0 (by simp) (.slice none 0 0) rfl) 1 (by simp) (.slice none 0 0) (vs' := #[.slice none 0 0, .slice none 0 0]) rfl) (((Chg.of (Below.refl _ w2)).set 0 _).set 1 _)) ?_
    intro X hC hB
    have k0 : X.cell? ⟨w.heap.size + 1 + 1, 0, none⟩ = some (.slice none 0 0) := hC.c 0 rfl
    have k1 : X.cell? ⟨w.heap.size + 1 + 1, 1, none⟩ = some (.slice none 0 0) := hC.c 1 rfl
    exact bodyPost_ret (v := .tuple #[.agg #[.slice none 0 0, .slice none 0 0], .int .i64 R]) (by simp [results, Try.results13, go_sem, k0, k1]) rfl ⟨zB, rfl, HB.out.trans (hB.below (by omega) HB.out.size), fun _ => rfl, fun e => absurd e hz⟩
end Go.Proofs.Ytolinnmhdclgpaa
