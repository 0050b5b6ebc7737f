/- The contract of the program's 'Overlay'. -/
import Derived.Test.YtloilkfloidnjaaJ
namespace Go.Proofs.Ytloilkfloidnjaa
open Go.RowKit Go.WideMaps Go.Shelf
attribute [local go_sem] Oper.semAt_some

theorem settings_any (a1 : Option Addr) (n1 c1 : Nat) (a2 : Option Addr) (n2 c2 : Nat) (v vI : Value) (hv : v = .slice a1 n1 c1) (hvI : vI = .slice a2 n2 c2) (w : World) : Calls Try.prog 25 #[v, vI] w fun e w' =>
    e = .returned (.func (.func 28) #[] #[.pointer (some ⟨w.heap.size, 0, none⟩), .pointer (some ⟨w.heap.size + 1, 0, none⟩)]) ∧ w' = (w.alloc (.cells #[v] 22)).alloc (.cells #[vI] 52) := by
  subst hv hvI
  go_enter Try.func25, Try.ntmps25
  go_wp2
  go_ret
  exact ⟨rfl, rfl⟩
theorem iter_stops (L : List Scn) (I : List Nat) (v vI : Value) (w0 : World) (hS : ScnsAt w0 v L) (hI : NatsAt w0 vI I) (hk : ∀ x ∈ L, x.ok) (hs : ∀ x ∈ L, x.sets.length ≤ 20) (hl : L.length ≤ 12) (hIl : I.length ≤ 40) (hIr : ∀ i ∈ I, i < L.length)
    (n : Nat) (hn : 1 ≤ n) (B1 B2 : Nat) (w : World) (hb : Below w0.heap.size w0 w) (h1 : Boxed w B1 22 v) (h2 : Boxed w B2 52 vI) :
    SeqStopsK Fence.wide n Try.prog 28 #[.pointer (some ⟨B1, 0, none⟩), .pointer (some ⟨B2, 0, none⟩)] (fun x : Sett => #[x.val]) (Keep w0.heap.size B1 B2) (fun ys => ys = yl L (outW L I I.length) (remI L I 0)) (fun pre => pre <+: yl L (outW L I I.length) (remI L I 0)) (yl L (outW L I I.length) (remI L I 0)).length w := fun l J Jx W hW hJ _ hY h0 =>
  iter1 L I v vI w0 hS hI hk hs hl hIl hIr n hn l B1 B2 J Jx _ rfl hY W hJ (hb.trans (hW.mono hb.size)) ((hW.block B1 h1.lt).trans h1) ((hW.block B2 h2.lt).trans h2) h0
theorem Keep.putObj {n₀ B1 B2 : Nat} {w : World} (hn : n₀ ≤ w.heap.size) (W : World) (l : Nat) (o o' : Obj) (hl : w.heap.size ≤ l) (h : W.heap[l]? = some o) (hc : o.isCells = false) (hw : o.isWalk = false) : Keep n₀ B1 B2 W (W.putObj l o') :=
  have hs : ∀ B, Same B W (W.putObj l o') := fun B o2 h2 hc2 => ((grownBy_putObj' W l o').block B (Array.getElem?_eq_some_iff.1 h2).1 (fun e => by cases e; rw [h] at h2; cases h2; rw [hc] at hc2; cases hc2)).trans h2
  ⟨belowK_b hn W l o o' hl h hc hw, walksK_b (w := w) W l o o' hl h hc hw, hs B1, hs B2⟩
theorem Same.alloc (B : Nat) (W : World) (o : Obj) : Same B W (W.alloc o) := fun _ h _ => (Below.heap_alloc W o B (Array.getElem?_eq_some_iff.1 h).1).trans h
theorem Keep.alloc {n₀ : Nat} (B1 B2 : Nat) {W : World} (hn : n₀ ≤ W.heap.size) (o : Obj) : Keep n₀ B1 B2 W (W.alloc o) :=
  ⟨(Below.refl _ _).alloc hn _, KeepsWalks.alloc _ _, Same.alloc _ _ _, Same.alloc _ _ _⟩
theorem Same.of_boxed {B : Nat} {W W' : World} {t : TypeId} {v : Value} (h : Boxed W B t v) (h' : Boxed W' B t v) : Same B W W' := fun o ho _ => by
  rw [show W.heap[B]? = _ from h] at ho
  cases ho
  exact h'
theorem yl_len (L : List Scn) : ∀ (l : List Sett) (F : WF), (yl L F l).length ≤ l.length
  | [], _ => by simp [yl]
  | s :: r, F => by
    unfold yl
    split
    · have := yl_len L r F; simp; omega
    · have := yl_len L r (Ytloilkfloidnjaa.del F s.dev s.attr); simp; omega
theorem remI_len {L : List Scn} (hs : ∀ x ∈ L, x.sets.length ≤ 20) (I : List Nat) (hr : ∀ i ∈ I, i < L.length) : (remI L I 0).length ≤ I.length * 20 := by
  unfold remI
  rw [List.drop_zero]
  induction I with
  | nil => simp
  | cons i I ih =>
    rw [List.flatMap_cons, List.length_append, List.length_cons]
    have h1 : (stN L i).length ≤ 20 := hs _ (scn_mem (hr i (by simp)))
    have h2 := ih fun j hj => hr j (by simp [hj])
    omega
/-- The overlay of named scenes. -/
def ovl (L : List Scn) (N : List ByteArray) : List Sett := yl L (win L N) (remI L (ixs L N) 0)
theorem ovl_len {L : List Scn} {N : List ByteArray} (F : Fit L N) (hkn : kn L N = true) : (ovl L N).length ≤ 800 := by
  have h1 := yl_len L (remI L (ixs L N) 0) (win L N)
  have h2 := remI_len F.sets (ixs L N) (ixs_lt hkn)
  rw [ixs_len] at h2
  have h3 := F.names
  unfold ovl
  omega
/-- The cells of a list of settings. -/
def scs (l : List Sett) : List Value := l.flatMap Sett.cells
theorem scs_snoc (l : List Sett) (x : Sett) : scs (l ++ [x]) = scs l ++ x.cells := by simp [scs]
theorem info40 : (Try.prog.info? 40).map (fun i => (i.zero, i.size, i.bytes)) = some (some (.agg #[.string ⟨#[]⟩, .string ⟨#[]⟩, .string ⟨#[]⟩, .int .i64 0, .string ⟨#[]⟩]), 5, 72) := by kernel_rfl
theorem scs_get (l : List Sett) : ∀ (i : Nat) (x : Sett), l[i]? = some x → ∀ j, j < 5 → (scs l)[i * 5 + j]? = x.cells[j]? := by
  induction l with
  | nil => intro i x h; simp at h
  | cons y l ih =>
    intro i x h j hj
    have hs : scs (y :: l) = y.cells ++ scs l := by simp [scs]
    rw [hs]
    cases i with
    | zero =>
      simp at h; subst h
      rw [List.getElem?_append_left (by simp [Sett.cells]; omega)]
      simp
    | succ i =>
      rw [List.getElem?_append_right (by simp [Sett.cells]; omega)]
      have := ih i x (by simpa using h) j hj
      rw [← this]
      congr 1
      simp [Sett.cells]; omega
theorem setts_of_row {w : World} {base : Nat} {v : Value} {l : List Sett} (hl : l.length ≤ maxLen) (h : w.ownsRow base 40 5 v l.length (scs l)) : SettsAt w v l := by
  have hc := fun g (hg : v.ownBlock = some g) => h.cells hg
  rcases h.2 with ⟨rfl, h0⟩ | ⟨g, cap, cur, rfl, -⟩
  · have : l = [] := List.length_eq_zero_iff.1 h0
    subst this
    exact ⟨none, 0, rfl, by simp, fun h => absurd rfl h⟩
  · refine ⟨some ⟨g, 0, none⟩, cap, rfl, hl, fun _ => ⟨g, 0, rfl, fun i x hi => ?_⟩⟩
    have hj := fun j (hj : j < 5) u (hu : x.cells[j]? = some u) => hc g rfl (i * 5 + j) u ((scs_get l i x hi j hj).trans hu)
    simp only [Go.WideShapes.add_plain] at hj
    exact ⟨hj 0 (by omega) _ rfl, hj 1 (by omega) _ rfl, hj 2 (by omega) _ rfl, hj 3 (by omega) _ rfl, hj 4 (by omega) _ rfl⟩
theorem cell_five_new (W : World) (a b c d e : Value) (T : TypeId) : ∀ j u, [a, b, c, d, e][j]? = some u → (W.alloc (.cells #[a, b, c, d, e] T)).cell? ((⟨W.heap.size, 0, none⟩ : Addr).add j) = some u := by
  intro j u hu
  have hadd : (⟨W.heap.size, 0, none⟩ : Addr).add j = ⟨W.heap.size, j, none⟩ := by unfold Addr.add; split <;> simp_all
  rw [hadd, World.cell?_alloc_new]
  simpa using hu
theorem row_slice {W : World} {base : Nat} {e : TypeId} {size : Nat} {v : Value} {k : Nat} {xs : List Value} (h : W.ownsRow base e size v k xs) : ∃ a cap, v = .slice a k cap := by
  rcases h.2 with ⟨rfl, rfl⟩ | ⟨g, cap, _, rfl, _⟩
  · exact ⟨none, 0, rfl⟩
  · exact ⟨_, cap, rfl⟩
/-- What 'Overlay' gives. -/
def OvPost (L : List Scn) (N : List ByteArray) (w : World) (e : Ending) (w' : World) : Prop :=
  (kn L N = false ∧ e = .returned (.tuple #[.slice none 0 0, .int .i64 8]) ∨ kn L N = true ∧ ∃ v, e = .returned (.tuple #[v, .int .i64 0]) ∧ SettsAt w' v (ovl L N)) ∧ Below w.heap.size w w'
/-- The same, with the slice's capacity. -/
def OvPost2 (L : List Scn) (N : List ByteArray) (w : World) (e : Ending) (w' : World) : Prop :=
  (kn L N = false ∧ e = .returned (.tuple #[.slice none 0 0, .int .i64 8]) ∨ kn L N = true ∧ ∃ a n c, e = .returned (.tuple #[.slice a n c, .int .i64 0]) ∧ SettsAt w' (.slice a n c) (ovl L N) ∧ n ≤ c) ∧ Below w.heap.size w w'
theorem OvPost2.less {L : List Scn} {N : List ByteArray} {w w' : World} {e : Ending} (h : OvPost2 L N w e w') : OvPost L N w e w' := by
  obtain ⟨h | ⟨h1, a, n, c, h2, h3, -⟩, hb⟩ := h
  · exact ⟨.inl h, hb⟩
  · exact ⟨.inr ⟨h1, _, h2, h3⟩, hb⟩
theorem row_cap {W : World} {base : Nat} {e : TypeId} {size : Nat} {a : Option Addr} {n c k : Nat} {xs : List Value} (h : W.ownsRow base e size (.slice a n c) k xs) : n ≤ c := by
  rcases h.2 with ⟨h1, -⟩ | ⟨g, cap, _, h1, -, -, h2, -⟩
  · simp only [Value.slice.injEq] at h1
    omega
  · simp only [Value.slice.injEq] at h1
    omega
/-- The variables while settings come. -/
def LI (v vI : Value) (w1 : World) (pre : List Sett) (W : World) : Prop :=
  (((∃ u, Boxed W w1.heap.size 28 u ∧ W.ownsRow w1.heap.size 40 5 u pre.length (scs pre) ∧ True) ∧ Boxed W (w1.heap.size + 1) 22 v) ∧ Boxed W (w1.heap.size + 2) 52 vI) ∧ Below w1.heap.size w1 W
theorem LI_own (v vI : Value) (B : Nat) (w1 : World) (hB : w1.heap.size ≤ B) : OwnFrom B (LI v vI w1) :=
  OwnFrom.and (OwnFrom.and (OwnFrom.and (Own.from (holdsRow_own w1.heap.size w1.heap.size 28 40 5 (fun pre : List Sett => pre.length) (fun pre => scs pre) (fun _ _ => True)) _) (Own.from (boxed_own _ _ _) _)) (Own.from (boxed_own _ _ _) _)) (ownFrom_below (Nat.le_refl _) hB)
/-- A block of five cells holds a setting. -/
def Set5 (W : World) (B : Nat) (x : Sett) : Prop := W.heap[B]? = some (.cells #[.string x.dev, .string x.attr, .string x.name, .int .i64 x.ten, .string x.unit] 40 (0, 0))
theorem Set5.cell {W : World} {B : Nat} {x : Sett} (h : Set5 W B x) (j : Nat) : W.cell? ⟨B, j, none⟩ = #[Value.string x.dev, .string x.attr, .string x.name, .int .i64 x.ten, .string x.unit][j]? := by simp [World.cell?, show W.heap[B]? = _ from h]
theorem Set5.kept {W W' : World} {row : Option Nat} {B : Nat} {x : Sett} (h : Set5 W B x) (hg : W.grownBy W' row) (hr : ∀ r, row = some r → ∃ o : Obj, W.heap[r]? = some o ∧ o.isCells = false) : Set5 W' B x :=
  (hg.block B (Array.getElem?_eq_some_iff.1 h).1 (fun e => by obtain ⟨o, ho, hc⟩ := hr B e.symm; rw [show W.heap[B]? = _ from h] at ho; cases ho; cases hc)).trans h
set_option maxRecDepth 100000 in
set_option maxHeartbeats 4000000 in
theorem overlay_in (v vn : Value) (L : List Scn) (N : List ByteArray) (w : World) (h : ScnsAt w v L) (hn : NamesAt w vn N) (F : Fit L N) :
    CallsIn Fence.wide 9 Try.prog 13 #[v, vn] w (OvPost2 L N w) := by
  obtain ⟨i0, hi, hz0, hz1, hz2⟩ := info_parts info40
  have HF := Lib.hid (sfind_any v vn L N w h F.ok hn F.sizes F.len F.names)
  have HS := Lib.hid h
  clear h hn
  cases hkn : kn L N
  · have HK := Lib.hid hkn
    refine callsIn_of_wp_marks Try.func13 rfl trivial ?_ rfl
    simp only [Try.ntmps13, List.size_toArray, List.length_cons, List.length_nil, Nat.reduceAdd, Nat.reduceSub, Array.replicate_succ, Array.replicate_zero, List.push_toArray, List.append_toArray, List.nil_append, List.cons_append]
    gi_wp2_with (refine ⟨trivial, ?_⟩; gi_at_call 24; refine (callsIn_wide.2 HF.out).mono ?_; rintro e w1 ⟨vI, rfl, hb1, hrow, hnil⟩; rw [hnil hkn, HK.out]; clear hrow hnil)
    exact ⟨.tuple #[.slice none 0 0, .int .i64 8], by simp [results, Try.f13, go_sem], .inl ⟨HK.out, rfl⟩, hb1⟩
  · have HK := Lib.hid hkn
    obtain ⟨aa, cap, rfl, -⟩ := HS.out.open
    refine callsIn_of_wp_marks Try.func13 rfl trivial ?_ rfl
    simp only [Try.ntmps13, List.size_toArray, List.length_cons, List.length_nil, Nat.reduceAdd, Nat.reduceSub, Array.replicate_succ, Array.replicate_zero, List.push_toArray, List.append_toArray, List.nil_append, List.cons_append]
    gi_wp2_with (first
      | (refine ⟨trivial, ?_⟩; gi_at_call 24; refine (callsIn_wide.2 HF.out).mono ?_; rintro e w1 ⟨vI, rfl, hb1, hrow, hnil⟩; rw [HK.out]; have HI := Lib.hid (find_nats (hrow hkn)); clear hrow hnil; obtain ⟨a2, n2, c2, rfl⟩ : ∃ a n c, vI = .slice a n c := (by obtain ⟨a2, c2, h2, _⟩ := HI.out; exact ⟨a2, _, c2, h2⟩))
      | (refine ⟨trivial, ?_⟩; gi_at_call 25; refine (callsIn_wide.2 (settings_any aa L.length cap a2 n2 c2 _ _ rfl rfl _)).mono ?_; rintro e w2 ⟨rfl, rfl⟩))
    have HS1 := Lib.hid (HS.out.step hb1)
    have b0 := ((Boxed.new w1 28 (.slice none 0 0)).alloc (.cells #[.slice aa L.length cap] 22)).alloc (.cells #[.slice a2 n2 c2] 52)
    have b1 := (Boxed.new (w1.alloc (.cells #[.slice none 0 0] 28)) 22 (.slice aa L.length cap)).alloc (.cells #[.slice a2 n2 c2] 52)
    have b2 := Boxed.new ((w1.alloc (.cells #[.slice none 0 0] 28)).alloc (.cells #[.slice aa L.length cap] 22)) 52 (.slice a2 n2 c2)
    simp only [World.size_alloc] at b1 b2
    have hB0 : Below w1.heap.size w1 (((w1.alloc (.cells #[.slice none 0 0] 28)).alloc (.cells #[.slice aa L.length cap] 22)).alloc (.cells #[.slice a2 n2 c2] 52)) := (((Below.refl _ w1).alloc (Nat.le_refl _) _).alloc (by simp) _).alloc (by simp; omega) _
    have hsz : (((w1.alloc (.cells #[.slice none 0 0] 28)).alloc (.cells #[.slice aa L.length cap] 22)).alloc (.cells #[.slice a2 n2 c2] 52)).heap.size = w1.heap.size + 3 := by simp
    obtain ⟨W0, hW0⟩ : ∃ W0, ((w1.alloc (.cells #[.slice none 0 0] 28)).alloc (.cells #[.slice aa L.length cap] 22)).alloc (.cells #[.slice a2 n2 c2] 52) = W0 := ⟨_, rfl⟩
    rw [hW0] at b0 b1 b2 hB0 hsz ⊢
    clear hW0
    have hlen := ovl_len F HK.out
    refine wpIn_rangeFunc_ownH rfl (by omega) (gf := 28) (lb := #[.pointer (some ⟨w1.heap.size + 1, 0, none⟩), .pointer (some ⟨w1.heap.size + 1 + 1, 0, none⟩)]) rfl trivial (enters_of Try.func28 (by kernel_rfl) rfl)
      (iter_stops L (ixs L N) (.slice aa L.length cap) (.slice a2 n2 c2) w1 HS1.out HI.out F.ok F.sets F.len (by rw [ixs_len]; exact F.names) (ixs_lt HK.out) 8 (by omega) (w1.heap.size + 1) (w1.heap.size + 1 + 1) W0 hB0 b1 b2)
      Keep.trans (fun W l o o' => Keep.putObj (by omega) W l o o') (Below.refl _ _) (fun _ => rfl)
      (LI (.slice aa L.length cap) (.slice a2 n2 c2) w1) (fun _ _ _ => False) (LI_own _ _ _ _ (by omega)) (fun _ _ _ _ _ hs _ _ => hs)
      ⟨⟨⟨⟨_, b0, World.ownsRow_nil _ _ _ _, trivial⟩, b1⟩, b2⟩, hB0⟩
      (fun x a' W => ∃ Bx, w1.heap.size + 2 < Bx ∧ Set5 W Bx x ∧ a' = { tmps := #[.slice aa L.length cap, vn, undef, undef, .slice none 0 0, .int .i64 0, .slice a2 n2 c2, .bool true, .pointer (some ⟨w1.heap.size, 0, none⟩), .pointer (some ⟨Bx, 0, none⟩), .tuple #[.slice a2 n2 c2, .bool true], .slice aa L.length cap, vn, .tuple #[.slice a2 n2 c2, .bool true], .slice a2 n2 c2, .bool true, .bool true, .bool false, .slice aa L.length cap, .slice a2 n2 c2, .func (.func 28) #[] #[.pointer (some ⟨w1.heap.size + 1, 0, none⟩), .pointer (some ⟨w1.heap.size + 1 + 1, 0, none⟩)], x.val, undef, undef, undef, undef, undef], defers := [] })
      (fun x a' _ X Y row hs hg hr => by obtain ⟨Bx, h1, h2, h3⟩ := hs; exact ⟨Bx, h1, h2.kept hg (fun r e => (hr r e).2), h3⟩)
      ?assign ?body ?done ?stop
    case assign =>
      rintro l pre x W K hI hK
      have hsW := hI.2.size
      have hvx : x.val = .agg #[.string x.dev, .string x.attr, .string x.name, .int .i64 x.ten, .string x.unit] := rfl
      gi_wp2
      exact hK _ _ ((KeepsOthers.alloc _ _).from _) (Keep.alloc _ _ hsW _) (OwnFrom.alloc (LI_own _ _ W0.heap.size _ (by omega)) _ hI) ⟨W.heap.size, by have := hI.1.2.lt; omega, World.alloc_heap_new W _, rfl⟩
    case body =>
      rintro l pre x a' W hl ⟨r, hr⟩ hI ⟨Bx, hBx, bX, rfl⟩ hlt
      obtain ⟨⟨⟨⟨u, hv, hrow, -⟩, c1⟩, c2⟩, hBW⟩ := hI
      obtain ⟨va, vc, rfl⟩ := row_slice hrow
      have hcell := hv.cell
      have hsW := hBW.size
      have x0 : W.cell? ⟨Bx, 0, none⟩ = some (.string x.dev) := bX.cell 0
      have x1 : W.cell? ⟨Bx, 1, none⟩ = some (.string x.attr) := bX.cell 1
      have x2 : W.cell? ⟨Bx, 2, none⟩ = some (.string x.name) := bX.cell 2
      have x3 : W.cell? ⟨Bx, 3, none⟩ = some (.int .i64 x.ten) := bX.cell 3
      have x4 : W.cell? ⟨Bx, 4, none⟩ = some (.string x.unit) := bX.cell 4
      have hp4 : pre.length < 800 := by unfold ovl win at hlen; omega
      have HV := Lib.hid hv
      have HR := Lib.hid hrow
      clear hv hrow
      gi_wp2_with (gi_at_builtin; go_must (refine wpListIn_append_own _ rfl _ _ 28 rfl w1.heap.size 40 i0 _ 5 72 Try.underlying28 hi hz0 hz1 hz2 rfl (by decide) _ _ _ rfl (HR.out.alloc _) ⟨W.heap.size, 0, none⟩ 1 1 [.string x.dev, .string x.attr, .string x.name, .int .i64 x.ten, .string x.unit] rfl rfl (cell_five_new _ _ _ _ _ _ _) (by simp [Value.oneCell']) (by unfold maxLen; omega) (by omega) (by simp; omega) ?_); intro v' w3 hown' hgrow hnil; obtain ⟨g', cap', rfl⟩ := ownsRow_succ hown'; obtain ⟨hv1, hv2, hr2, hk2, hb2⟩ := HV.out.appended (by decide) HR.out hsW (Nat.le_refl _) hown' hgrow; have hc1 := hv1.cell; have hf1 := hv1.frozen; have k1 := ((c1.alloc _).kept hgrow (c1.not_row (by decide) HR.out)).other (B' := w1.heap.size) (by omega) (.slice (some ⟨g', 0, none⟩) (pre.length + 1) cap'); have k2 := ((c2.alloc _).kept hgrow (c2.not_row (by decide) HR.out)).other (B' := w1.heap.size) (by omega) (.slice (some ⟨g', 0, none⟩) (pre.length + 1) cap'); have K1 := Lib.hid k1; have K2 := Lib.hid k2; have V2 := Lib.hid hv2; have R2 := Lib.hid hr2; have B2 := Lib.hid hb2; have KK := Lib.hid hk2; clear k1 k2 hv2 hr2 hb2 hk2 hown' hgrow hnil hv1)
      refine ⟨KK.out.from _, ⟨B2.out, KK.out.walks, Same.of_boxed c1 K1.out, Same.of_boxed c2 K2.out⟩, ⟨⟨⟨_, V2.out, ?_, trivial⟩, K1.out⟩, K2.out⟩, hBW.trans B2.out⟩
      rw [scs_snoc, List.length_append]
      exact R2.out
    case done =>
      rintro D ys W hD hys ⟨⟨⟨⟨u, hv, hrow, -⟩, c1⟩, c2⟩, hBW⟩ hK
      obtain ⟨va, vc, rfl⟩ := row_slice hrow
      have hcell := hv.cell
      have HR := Lib.hid hrow
      have HYs := Lib.hid (show ys = ovl L N from hys)
      clear hrow hys
      gi_wp2
      refine ⟨by simp, .inl ⟨_, _, rfl, run_takeDeferred hK, ?_⟩⟩
      refine ⟨.tuple #[.slice va ys.length vc, .int .i64 0], by simp [results, Try.f13, go_sem], .inr ⟨HK.out, _, _, _, rfl, ?_, row_cap HR.out⟩, ?_⟩
      · have hy := HYs.out
        have := setts_of_row (by rw [hy]; unfold maxLen; omega) (ownsRow_putObj HR.out (.deferred none) hK rfl)
        rw [← hy]
        exact this
      · refine (hb1.trans (hBW.mono hb1.size)).grown (grownBy_putObj' _ D _) ?_ (fun j e => by cases e; have := hb1.size; omega)
        have := hb1.size; have := hBW.size; omega
    case stop =>
      rintro D c pre W hD hpre h
      exact h.elim
/-- 'Overlay' at all lists that are not too long. -/
theorem overlay_cap (v vn : Value) (L : List Scn) (N : List ByteArray) (w : World) (h : ScnsAt w v L) (hn : NamesAt w vn N) (F : Fit L N) : Calls Try.prog 13 #[v, vn] w (OvPost2 L N w) :=
  callsIn_wide.1 (overlay_in v vn L N w h hn F)
theorem overlay_any (v vn : Value) (L : List Scn) (N : List ByteArray) (w : World) (h : ScnsAt w v L) (hn : NamesAt w vn N) (F : Fit L N) : Calls Try.prog 13 #[v, vn] w (OvPost L N w) :=
  (overlay_cap v vn L N w h hn F).mono fun _ _ h => h.less
end Go.Proofs.Ytloilkfloidnjaa
