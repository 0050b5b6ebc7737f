/- Capabilities: the reference's chain of tags, and the lists whose digests it consists of. -/
import Derived.Test.YtpoldplmaomkaaaNz
namespace Go.Proofs.Ytpoldplmaomkaaa
open Go.RowKit

set_option maxRecDepth 100000 in
set_option maxHeartbeats 2000000 in
theorem rtaggedO_any (key : Int) (v : Value) (l : List Int) (w : World) (h : IntsAt w v l) (hl : l.length ≤ 100000) (hn : l ≠ []) :
    Calls Try.prog 68 #[.int .i64 key, v] w fun e w' => ∃ u, e = .returned u ∧ w'.ownsRow w.heap.size 3 1 u (l.length + 2) ((key :: (l.length : Int) :: l).map (Value.int .i64)) ∧ Below w.heap.size w w' := by
  have H := Lib.hid h
  obtain ⟨a, cap, rfl, hm, hc⟩ := h
  unfold maxLen at hm
  have HC := Lib.hid hc
  clear hc
  obtain ⟨i0, hi, hz0, hz1, hz2⟩ := info_parts infoInt
  have c1 : 2 + l.length ≤ maxLen := by unfold maxLen; omega
  have c2 : (2 + l.length) * 8 ≤ 140737488355328 := by omega
  have HR := Lib.hid (show (w.alloc (.cells #[.int .i64 key, .int .i64 (l.length : Int)] 3)).ownsRow w.heap.size 3 1 (.slice (some ⟨w.heap.size, 0, none⟩) 2 2) 2 [.int .i64 key, .int .i64 (l.length : Int)] from
    ⟨rfl, .inr ⟨w.heap.size, 2, _, rfl, Nat.le_refl _, heap_alloc_new _ _, by omega, by unfold maxLen; omega, rfl, rfl⟩⟩)
  obtain ⟨b, off, rfl, hcs⟩ := HC.out hn
  have HN := Lib.hid (show ∀ j u, (l.map (Value.int .i64))[j]? = some u → (w.alloc (.cells #[.int .i64 key, .int .i64 (l.length : Int)] 3)).cell? ((⟨b, off, none⟩ : Addr).add j) = some u from fun j u hu => by
    rw [List.getElem?_map] at hu
    cases hj : l[j]? with
    | none => rw [hj] at hu; cases hu
    | some x =>
      rw [hj] at hu
      simp only [Option.map_some, Option.some.injEq] at hu
      subst hu
      rw [Go.WideShapes.add_plain]
      exact keep1 (al _ _) (hcs j x hj))
  clear hcs
  go_enter Try.func68, Try.ntmps68
  go_wp2_with (at_builtin; refine wpList_append_own _ rfl _ _ 22 rfl w.heap.size 3 i0 (.int .i64 0) 1 8 Try.underlying22 hi hz0 hz1 hz2 rfl (by decide) _ _ _ rfl HR.out ⟨b, off, none⟩ l.length cap (l.map (Value.int .i64)) rfl (by simp) HN.out (by simp [Value.oneCell']) c1 c2 (by simp) ?_; intro v' w1 hown hgrow _; have HO := Lib.hid hown; have HG := Lib.hid hgrow; clear hown hgrow)
  have HI := Lib.hid (show w1.ownsRow w.heap.size 3 1 v' (l.length + 2) _ by rw [show l.length + 2 = 2 + l.length by omega]; exact HO.out)
  have HB := Lib.hid ((al w (.cells #[.int .i64 key, .int .i64 (l.length : Int)] 3)).grown HG.out (by simp) (fun k e => by cases e; exact Nat.le_refl _))
  have HP := Lib.hid (show w1.ownsRow w.heap.size 3 1 v' (l.length + 2) ((key :: (l.length : Int) :: l).map (Value.int .i64)) ∧ Below w.heap.size w w1 from ⟨HI.out, HB.out⟩)
  clear HI HB
  go_wp2
  go_ret
  exact ⟨_, rfl, HP.out⟩
/-- A list of numbers in a block of its own. -/
def EL (w : World) (sv : Value) (l : List Int) : Prop := ∃ g n c cur, sv = .slice (some ⟨g, 0, none⟩) n c ∧ BoxN w g cur 3 ∧ IntsAt w sv l
theorem EL.step {w w1 : World} {sv : Value} {l : List Int} (h : EL w sv l) (hb : Below w.heap.size w w1) : EL w1 sv l := by
  obtain ⟨g, n, c, cur, h1, h2, h3⟩ := h
  exact ⟨g, n, c, cur, h1, h2.step hb, h3.step hb⟩
theorem EL.grown {w w1 : World} {sv : Value} {l : List Int} {row : Option Nat} (h : EL w sv l) (hg : w.grownBy w1 row) (hne : row ≠ sv.ownBlock) : EL w1 sv l := by
  obtain ⟨g, n, c, cur, rfl, h2, h3⟩ := h
  have h4 := box_grown h2 hg hne
  have h5 : w1.heap[g]? = w.heap[g]? := h4.trans h2.symm
  refine ⟨g, n, c, cur, rfl, h4, ?_⟩
  obtain ⟨a', c', hv, hm, hc⟩ := h3
  cases hv
  refine ⟨_, _, rfl, hm, fun hl => ?_⟩
  obtain ⟨b, off, ha, hx⟩ := hc hl
  cases ha
  exact ⟨_, _, rfl, fun i x hi => by rw [← hx i x hi]; simp only [World.cell?, h5]⟩
theorem EL.one {w : World} {sv : Value} {l : List Int} (h : EL w sv l) : sv.oneCell' = true := by
  obtain ⟨g, n, c, cur, rfl, -, -⟩ := h
  rfl
theorem EL.lt {w : World} {sv : Value} {l : List Int} (h : EL w sv l) : ∃ g, sv.ownBlock = some g ∧ g < w.heap.size := by
  obtain ⟨g, n, c, cur, rfl, h2, -⟩ := h
  exact ⟨g, rfl, h2.lt⟩
theorem el_of_row {w : World} {base n : Nat} {v : Value} {xs : List Int} (h : w.ownsRow base 3 1 v n (xs.map (Value.int .i64))) (hn : n = xs.length) (h0 : 0 < n) : EL w v xs ∧ ∃ g, v.ownBlock = some g ∧ base ≤ g := by
  have h2 := h
  subst hn
  rcases h.2 with ⟨rfl, e⟩ | ⟨g, cap, cur, rfl, h3, h4, -⟩
  · omega
  · exact ⟨⟨g, _, _, cur, rfl, h4, ints_of_row h2⟩, g, rfl, h3⟩
/-- Lists of numbers, each in a block of its own, and none in that of a row. -/
def ELs (w : World) (ex : Option Nat) (zs : List Value) (L : List (List Int)) : Prop := zs.length = L.length ∧ ∀ (i : Nat) (sv : Value) (l : List Int), zs[i]? = some sv → L[i]? = some l → EL w sv l ∧ sv.ownBlock ≠ ex
theorem ELs.step {w w1 : World} {ex : Option Nat} {zs : List Value} {L : List (List Int)} (h : ELs w ex zs L) (hb : Below w.heap.size w w1) : ELs w1 ex zs L :=
  ⟨h.1, fun i sv l h1 h2 => ⟨(h.2 i sv l h1 h2).1.step hb, (h.2 i sv l h1 h2).2⟩⟩
theorem ELs.get {w : World} {ex : Option Nat} {zs : List Value} {L : List (List Int)} (h : ELs w ex zs L) {i : Nat} (hi : i < L.length) : ∃ sv, zs[i]? = some sv ∧ EL w sv (L[i]) := by
  have h1 : i < zs.length := by rw [h.1]; exact hi
  exact ⟨zs[i], by simp [h1], (h.2 i zs[i] L[i] (by simp [h1]) (by simp [hi])).1⟩
theorem ELs.one {w : World} {ex : Option Nat} {zs : List Value} {L : List (List Int)} (h : ELs w ex zs L) : ∀ u ∈ zs, u.oneCell' = true := fun u hu => by
  obtain ⟨i, hi, rfl⟩ := List.mem_iff_getElem.1 hu
  have h2 : i < L.length := by rw [← h.1]; exact hi
  exact (h.2 i zs[i] L[i] (by simp [hi]) (by simp [h2])).1.one
/-- A row of lists grows: the lists stay. -/
theorem ELs.rows {w w1 : World} {ex : Option Nat} {zs : List Value} {L : List (List Int)} {base n : Nat} {v : Value} {xs : List Value} (h : ELs w ex zs L) (hr : w.ownsRow base 22 1 v n xs) (hg : w.grownBy w1 v.ownBlock) : ELs w1 ex zs L :=
  ⟨h.1, fun i sv l h1 h2 => by
    obtain ⟨he, hx⟩ := h.2 i sv l h1 h2
    refine ⟨he.grown hg ?_, hx⟩
    obtain ⟨g, n, c, cur, rfl, hb, -⟩ := he
    exact row_type hr hb (by decide)⟩
/-- The row of tags grows: the lists stay. -/
theorem ELs.tags {w w1 : World} {zs : List Value} {L : List (List Int)} {v v1 : Value} (h : ELs w v.ownBlock zs L) (hg : w.grownBy w1 v.ownBlock) (ho : v1.ownBlock = v.ownBlock ∨ v1.ownBlock = some w.heap.size) : ELs w1 v1.ownBlock zs L :=
  ⟨h.1, fun i sv l h1 h2 => by
    obtain ⟨he, hx⟩ := h.2 i sv l h1 h2
    refine ⟨he.grown hg (Ne.symm hx), ?_⟩
    rcases ho with e | e
    · rw [e]; exact hx
    · obtain ⟨g, h3, h4⟩ := he.lt
      rw [e, h3]
      intro e2
      cases e2
      exact Nat.lt_irrefl _ h4⟩
theorem ELs.snoc {w : World} {ex : Option Nat} {zs : List Value} {L : List (List Int)} {sv : Value} {l : List Int} (h : ELs w ex zs L) (he : EL w sv l) (hx : sv.ownBlock ≠ ex) : ELs w ex (zs ++ [sv]) (L ++ [l]) := by
  refine ⟨by simp [h.1], fun i s2 l2 h1 h2 => ?_⟩
  by_cases hi : i < L.length
  · rw [List.getElem?_append_left (by rw [h.1]; exact hi)] at h1
    rw [List.getElem?_append_left hi] at h2
    exact h.2 i s2 l2 h1 h2
  · have hlt := (List.getElem?_eq_some_iff.1 h2).1
    have hi2 : i = L.length := by simp at hlt; omega
    subst hi2
    rw [← h.1] at h1
    simp at h1 h2
    subst h1 h2
    exact ⟨he, hx⟩
/-- The lists whose digests are the tags. -/
def lsK (key id : Int) (l : List Cv) : Nat → List Int
  | 0 => [key, 1, id]
  | k + 1 => [tk (tg0 key id) l k, 2, (l.getD k zC).k, (l.getD k zC).v]
theorem lsK_dg (key id : Int) (l : List Cv) : ∀ k, Dg (lsK key id l k) = tk (tg0 key id) l k
  | 0 => rfl
  | _ + 1 => rfl
def lsL (key id : Int) (l : List Cv) (n : Nat) : List (List Int) := (List.range n).map (lsK key id l)
theorem lsL_succ (key id : Int) (l : List Cv) (n : Nat) : lsL key id l (n + 1) = lsL key id l n ++ [lsK key id l n] := by
  unfold lsL; rw [List.range_succ]; simp
def tkL (key id : Int) (l : List Cv) (n : Nat) : List Int := (List.range n).map (tk (tg0 key id) l)
theorem tkL_succ (key id : Int) (l : List Cv) (n : Nat) : tkL key id l (n + 1) = tkL key id l n ++ [tk (tg0 key id) l n] := by
  unfold tkL; rw [List.range_succ]; simp
theorem tkL_get (key id : Int) (l : List Cv) (n k : Nat) (h : k < n) : (tkL key id l n)[k]? = some (tk (tg0 key id) l k) := by
  unfold tkL; simp [h]
theorem row_cell {w : World} {base n : Nat} {v : Value} {xs : List Int} (h : w.ownsRow base 3 1 v n (xs.map (Value.int .i64))) (h0 : 0 < n) : ∃ g c, v = .slice (some ⟨g, 0, none⟩) n c ∧ g < w.heap.size ∧ ∀ (j : Nat) (x : Int), xs[j]? = some x → w.cell? ⟨g, j, none⟩ = some (.int .i64 x) := by
  obtain ⟨g, c, rfl, -, hlt⟩ := h.form h0
  refine ⟨g, c, rfl, hlt, fun j x hx => ?_⟩
  have hj := (List.getElem?_eq_some_iff.1 hx).1
  have hl := h.1
  rw [List.length_map] at hl
  rw [h.cellAt j (by omega), List.getElem?_map, hx]; rfl
theorem info37 : (Try.prog.info? 22).map (fun i => (i.zero, i.size, i.bytes)) = some (some (.slice none 0 0), 1, 24) := by kernel_rfl
theorem rsumB_any (v : Value) (l : List Int) (w : World) (h : IntsAt w v l) : Calls Try.prog 69 #[v] w fun e w' => e = .returned (.int .i64 (Dg l)) ∧ Below w.heap.size w w' := (rsum_any v l w h).mono fun e w' q => by
  obtain ⟨q1, n, rfl⟩ := q
  exact ⟨q1, below_drewN' _ _ _⟩
/-- A row stays when another one grows. -/
theorem row_keep {w w1 : World} {base e s n : Nat} {v : Value} {xs : List Value} {row : Option Nat} (h : w.ownsRow base e s v n xs) (hg : w.grownBy w1 row) (hne : ∀ g, v.ownBlock = some g → row ≠ some g) : w1.ownsRow base e s v n xs := by
  refine ⟨h.1, ?_⟩
  rcases h.2 with h0 | ⟨g, cap, cur, rfl, h2, h3, h4⟩
  · exact .inl h0
  · refine .inr ⟨g, cap, cur, rfl, h2, ?_, h4⟩
    have hlt : g < w.heap.size := (Array.getElem?_eq_some_iff.1 h3).1
    exact (hg.block g hlt (fun e => hne g rfl e.symm)).trans h3
theorem row_row {w : World} {b1 b2 e1 e2 s1 s2 n1 n2 : Nat} {v1 v2 : Value} {x1 x2 : List Value} (h1 : w.ownsRow b1 e1 s1 v1 n1 x1) (h2 : w.ownsRow b2 e2 s2 v2 n2 x2) (hne : e1 ≠ e2) : ∀ g, v1.ownBlock = some g → v2.ownBlock ≠ some g := fun g hg => by
  rcases h1.2 with ⟨rfl, -⟩ | ⟨g1, cap, cur, rfl, -, h3, -⟩
  · cases hg
  · have e : g1 = g := by simpa [Value.ownBlock] using hg
    rw [e] at h3
    exact row_type h2 (show BoxN w g cur e1 from h3) hne
/-- What 'Tags' gives. -/
def TG (key id : Int) (l : List Cv) (n0 : Nat) (u z : Value) (w : World) : Prop := ∃ zs, w.ownsRow n0 3 1 u (l.length + 1) ((tkL key id l (l.length + 1)).map (Value.int .i64)) ∧ w.ownsRow n0 22 1 z (l.length + 1) zs ∧ ELs w u.ownBlock zs (lsL key id l (l.length + 1))
set_option maxRecDepth 100000 in
set_option maxHeartbeats 4000000 in
theorem rtags_any (key id tag : Int) (v : Value) (l : List Cv) (w : World) (h : CvsAt w v l) (h20 : l.length ≤ 20) : Calls Try.prog 51 #[.int .i64 key, .agg #[.int .i64 id, v, .int .i64 tag]] w fun e w' => ∃ u z, e = .returned (.tuple #[u, z]) ∧ TG key id l w.heap.size u z w' ∧ Below w.heap.size w w' := by
  have H := Lib.hid h
  obtain ⟨a, cap, rfl, -, hm, -⟩ := h
  clear hm
  have HB0 := Lib.hid (Below.refl w.heap.size w)
  go_enter Try.func51, Try.ntmps51
  have KA_1 := Lib.hid (Cs.new w (w.heap.size) #[.int .i64 id, .slice a l.length cap, .int .i64 tag] 27 (by simp))
  have HB2 : Hid (Below w.heap.size w (w.alloc (.cells #[.int .i64 id, .slice a l.length cap, .int .i64 tag] 27))) := HB0.out.alloc HB0.out.size _
  clear HB0
  have xA0 : (w.alloc (.cells #[.int .i64 id, .slice a l.length cap, .int .i64 tag] 27)).cell? ⟨w.heap.size, 0, none⟩ = some (.int .i64 id) := KA_1.out.c 0 rfl
  have xA1 : (w.alloc (.cells #[.int .i64 id, .slice a l.length cap, .int .i64 tag] 27)).cell? ⟨w.heap.size, 1, none⟩ = some (.slice a l.length cap) := KA_1.out.c 1 rfl
  have xA2 : (w.alloc (.cells #[.int .i64 id, .slice a l.length cap, .int .i64 tag] 27)).cell? ⟨w.heap.size, 2, none⟩ = some (.int .i64 tag) := KA_1.out.c 2 rfl
  have zA : w.heap.size < (w.alloc (.cells #[.int .i64 id, .slice a l.length cap, .int .i64 tag] 27)).heap.size := KA_1.out.2.2
  have z2A : w.heap.size < (w.alloc (.cells #[.int .i64 id, .slice a l.length cap, .int .i64 tag] 27)).heap.size + 1 := by omega
  have HA0 := Lib.hid (BoxN.new w #[.int .i64 id, .slice a l.length cap, .int .i64 tag] 27)
  go_wp2_with fail
  clear xA0 xA1 xA2 zA z2A
  have KA_3 := Lib.hid (KA_1.out.alloc (.cells #[.int .i64 id] 3))
  clear KA_1
  have HB4 : Hid (Below w.heap.size w ((w.alloc (.cells #[.int .i64 id, .slice a l.length cap, .int .i64 tag] 27)).alloc (.cells #[.int .i64 id] 3))) := HB2.out.alloc HB2.out.size _
  clear HB2
  replace HA0 := Lib.hid (HA0.out.step (al _ (.cells #[.int .i64 id] 3)))
  refine (rtaggedO_any key _ [id] _ (ints_lit _ [id] _ 3 rfl (by simp) 1 rfl _ (by simp)) (by simp) (by simp)).mono ?_
  rintro e u1 ⟨u, rfl, hu, b1⟩
  have HU := Lib.hid hu
  obtain ⟨hel, gu, hgu, hgu2⟩ := el_of_row (xs := [key, 1, id]) hu rfl (by simp)
  have HE := Lib.hid hel
  obtain ⟨gg, gc, rfl, hgl, -⟩ := row_cell hu (by simp)
  cases hgu
  clear hu hel
  replace HA0 := Lib.hid (HA0.out.step b1)
  have KA_5 := Lib.hid (KA_3.out.step b1)
  clear KA_3
  have HB6 := Lib.hid (keep2 b1 HB4.out)
  clear HB4 b1
  go_wp2_with fail
  have HL0 := Lib.hid (World.ownsRow_lit (base := w.heap.size) (size := 1) (e := 22) u1 #[.slice (some ⟨gg, 0, none⟩) 3 gc] 1 (by have := HB6.out.size; omega) (by unfold maxLen; omega) rfl)
  replace HE := Lib.hid (HE.out.step (al u1 (.cells #[.slice (some ⟨gg, 0, none⟩) 3 gc] 22)))
  replace hgl := Lib.hid hgl
  clear HU hgu2
  replace HA0 := Lib.hid (HA0.out.step (al u1 (.cells #[.slice (some ⟨gg, 0, none⟩) 3 gc] 22)))
  have KA_7 := Lib.hid (KA_5.out.alloc (.cells #[.slice (some ⟨gg, 0, none⟩) 3 gc] 22))
  clear KA_5
  have HB8 : Hid (Below w.heap.size w (u1.alloc (.cells #[.slice (some ⟨gg, 0, none⟩) 3 gc] 22))) := HB6.out.alloc HB6.out.size _
  clear HB6
  refine (rsumB_any _ [key, 1, id] _ (by obtain ⟨g9, n9, c9, cur9, h9, -, hi9⟩ := HE.out; exact hi9)).mono ?_
  rintro e u2 ⟨rfl, b2⟩
  replace HL0 := Lib.hid (row_step HL0.out b2)
  replace HE := Lib.hid (HE.out.step b2)
  replace HA0 := Lib.hid (HA0.out.step b2)
  have hgl2 := Lib.hid (show gg < u2.heap.size from by have h1 := b2.size; have h2 := hgl.out; rw [World.size_alloc] at h1; omega)
  have KA_9 := Lib.hid (KA_7.out.step b2)
  clear KA_7
  have HB10 := Lib.hid (keep2 b2 HB8.out)
  clear HB8 b2
  rw [show Dg [key, 1, id] = tg0 key id from rfl]
  go_wp2_with fail
  have HT0 := Lib.hid (World.ownsRow_lit (base := w.heap.size) (size := 1) (e := 3) u2 #[.int .i64 (tg0 key id)] 1 (by have := HB10.out.size; omega) (by unfold maxLen; omega) rfl)
  replace HL0 := Lib.hid (row_step HL0.out (al u2 (.cells #[.int .i64 (tg0 key id)] 3)))
  replace HE := Lib.hid (HE.out.step (al u2 (.cells #[.int .i64 (tg0 key id)] 3)))
  replace HA0 := Lib.hid (HA0.out.step (al u2 (.cells #[.int .i64 (tg0 key id)] 3)))
  have KA_11 := Lib.hid (KA_9.out.alloc (.cells #[.int .i64 (tg0 key id)] 3))
  clear KA_9
  have HB12 : Hid (Below w.heap.size w (u2.alloc (.cells #[.int .i64 (tg0 key id)] 3))) := HB10.out.alloc HB10.out.size _
  clear HB10
  have HX0 := Lib.hid (show ELs (u2.alloc (.cells #[.int .i64 (tg0 key id)] 3)) (some u2.heap.size) [.slice (some ⟨gg, 0, none⟩) 3 gc] (lsL key id l 1) from ⟨rfl, fun i sv l2 h1 h2 => by
    rcases i with _ | i
    · cases h1
      cases h2
      exact ⟨HE.out, fun e => by cases e; exact Nat.lt_irrefl _ hgl2.out⟩
    · cases h1⟩)
  clear HE hgl hgl2
  obtain ⟨W2, hW2⟩ : ∃ W, (u2.alloc (.cells #[.int .i64 (tg0 key id)] 3)) = W := ⟨_, rfl⟩
  rw [hW2] at HT0 HL0 HX0 HA0 KA_11 HB12 ⊢
  clear hW2
  obtain ⟨i0, hi, hz0, hz1, hz2⟩ := info_parts infoInt
  obtain ⟨j0, hj, hy0, hy1, hy2⟩ := info_parts info37
  go_loopw [6, 7, 8] (fun zv tv i wr => ∃ (k : Nat) (zs : List Value), k ≤ l.length ∧ i = .int .i64 k ∧ Hid (wr.ownsRow w.heap.size 3 1 tv (k + 1) ((tkL key id l (k + 1)).map (Value.int .i64))) ∧ Hid (wr.ownsRow w.heap.size 22 1 zv (k + 1) zs) ∧ Hid (ELs wr tv.ownBlock zs (lsL key id l (k + 1))) ∧ Hid (Below w.heap.size w wr) ∧ Hid (BoxN wr (w.heap.size) #[.int .i64 id, .slice a l.length cap, .int .i64 tag] 27)) (fun _ _ i _ => l.length - (intOf i).toNat)
  case atStart => exact ⟨0, _, by omega, rfl, HT0.out, HL0.out, HX0.out, HB12.out, HA0.out⟩
  case round =>
    clear HT0 HL0 HX0 KA_11 HB12 HA0
    obtain ⟨k, zs, hk, rfl, HT, HL, HX, HB, HA⟩ := hrel
    obtain ⟨gt, tc, htv, hgt, htc⟩ := row_cell HT.out (by omega)
    subst htv
    obtain ⟨gz, zc, hzv, -, hgz⟩ := HL.out.form (by omega)
    subst hzv
    have xA1 := HA.out.cs.c 1 rfl
    have zA := HA.out.lt
    by_cases hlt : k < l.length
    · obtain ⟨a2, cap2, hva, -, -, hcs⟩ := H.out.step HB.out
      obtain ⟨rfl, rfl⟩ : a = a2 ∧ cap = cap2 := by simpa using hva
      obtain ⟨b, off, rfl, hcs2⟩ := hcs (by intro h; rw [h] at hlt; simp at hlt)
      obtain ⟨x0, x1⟩ := hcs2 k _ (cv_get hlt)
      clear hcs hcs2 hva
      have X0 := Lib.hid x0
      have X1 := Lib.hid x1
      clear x0 x1
      have HK1 := Lib.hid (show k + 1 ≤ l.length from hlt)
      have XT := Lib.hid (htc k _ (tkL_get key id l (k + 1) k (by omega)))
      clear htc
      replace hgt := Lib.hid hgt
      replace hgz := Lib.hid hgz
      have HLS := Lib.hid (show lsK key id l (k + 1) = [tk (tg0 key id) l k, 2, (l.getD k zC).k, (l.getD k zC).v] from rfl)
      have HTK := Lib.hid (show Dg [tk (tg0 key id) l k, 2, (l.getD k zC).k, (l.getD k zC).v] = tk (tg0 key id) l (k + 1) from rfl)
      generalize l.getD k zC = c at *
      obtain ⟨ck, cz⟩ := c
      simp only at X0 X1 HLS HTK
      obtain ⟨T, hT⟩ : ∃ T, tk (tg0 key id) l k = T := ⟨_, rfl⟩
      rw [hT] at XT HLS HTK
      clear hT
      go_wp2_with fail
      obtain ⟨lit, hlit⟩ : ∃ lit : (Nat → Value) → Act, lit = fun vs => { tmps := List.toArray (Value.int IntKind.i64 key :: Value.agg #[Value.int IntKind.i64 id, Value.slice (some { block := b, off := off }) l.length cap, Value.int IntKind.i64 tag] :: undef :: Value.pointer (some { block := w.heap.size, off := 0 }) :: Value.slice none 0 0 :: Value.slice none 0 0 :: Value.slice (some { block := gz, off := 0 }) (k + 1) zc :: Value.slice (some { block := gt, off := 0 }) (k + 1) tc :: Value.int IntKind.i64 (k : Int) :: vs 18 :: Value.int IntKind.i64 key :: Value.pointer (some { block := w.heap.size, off := 0 }) :: Value.int IntKind.i64 id :: Value.slice (some { block := w.heap.size + 1, off := 0 }) 1 1 :: Value.slice (some { block := gg, off := 0 }) 3 gc :: Value.slice (some { block := u1.heap.size, off := 0 }) 1 1 :: Value.slice (some { block := u1.heap.size, off := 0 }) 1 1 :: Value.pointer (some { block := u1.heap.size, off := 0 }) :: Value.slice (some { block := gg, off := 0 }) 3 gc :: Value.int IntKind.i64 (tg0 key id) :: Value.slice (some { block := u2.heap.size, off := 0 }) 1 1 :: Value.int IntKind.i64 (k : Int) :: Value.pointer (some { block := w.heap.size, off := 1 }) :: Value.slice (some { block := b, off := off }) l.length cap :: Value.int IntKind.i64 (l.length : Int) :: Value.bool true :: u26 :: u27 :: vs 0 :: vs 1 :: vs 2 :: vs 3 :: vs 4 :: vs 5 :: vs 6 :: vs 7 :: vs 8 :: vs 9 :: vs 10 :: vs 11 :: vs 12 :: vs 13 :: vs 14 :: vs 15 :: vs 16 :: vs 17 :: u46 :: u47 :: u48 :: u49 :: u50 :: u51 :: u52 :: u53 :: u54 :: undef :: undef :: []), defers := [] } := ⟨_, rfl⟩
      have HLIT := Lib.hid hlit
      clear hlit
      obtain ⟨val, hval⟩ : ∃ val : List Value, val = [.slice (some ⟨gt, 0, none⟩) (k + 1) tc, .int .i64 k, .pointer (some ⟨gt, k, none⟩), .int .i64 T, .pointer (some ⟨w.heap.size, 1, none⟩), .slice (some ⟨b, off, none⟩) l.length cap, .int .i64 k, .pointer (some ⟨b, off + k * 2, none⟩), .pointer (some ⟨b, off + k * 2, none⟩), .int .i64 ck, .pointer (some ⟨w.heap.size, 1, none⟩), .slice (some ⟨b, off, none⟩) l.length cap, .int .i64 k, .pointer (some ⟨b, off + k * 2, none⟩), .pointer (some ⟨b, off + k * 2 + 1, none⟩), .int .i64 cz, undef, undef, undef] := ⟨_, rfl⟩
      have E0 := Lib.hid (show val.getD 0 undef = .slice (some ⟨gt, 0, none⟩) (k + 1) tc by rw [hval]; rfl)
      have E1 := Lib.hid (show val.getD 1 undef = .int .i64 k by rw [hval]; rfl)
      have E2 := Lib.hid (show val.getD 2 undef = .pointer (some ⟨gt, k, none⟩) by rw [hval]; rfl)
      have E3 := Lib.hid (show val.getD 3 undef = .int .i64 T by rw [hval]; rfl)
      have E4 := Lib.hid (show val.getD 4 undef = .pointer (some ⟨w.heap.size, 1, none⟩) by rw [hval]; rfl)
      have E5 := Lib.hid (show val.getD 5 undef = .slice (some ⟨b, off, none⟩) l.length cap by rw [hval]; rfl)
      have E6 := Lib.hid (show val.getD 6 undef = .int .i64 k by rw [hval]; rfl)
      have E7 := Lib.hid (show val.getD 7 undef = .pointer (some ⟨b, off + k * 2, none⟩) by rw [hval]; rfl)
      have E8 := Lib.hid (show val.getD 8 undef = .pointer (some ⟨b, off + k * 2, none⟩) by rw [hval]; rfl)
      have E9 := Lib.hid (show val.getD 9 undef = .int .i64 ck by rw [hval]; rfl)
      have E10 := Lib.hid (show val.getD 10 undef = .pointer (some ⟨w.heap.size, 1, none⟩) by rw [hval]; rfl)
      have E11 := Lib.hid (show val.getD 11 undef = .slice (some ⟨b, off, none⟩) l.length cap by rw [hval]; rfl)
      have E12 := Lib.hid (show val.getD 12 undef = .int .i64 k by rw [hval]; rfl)
      have E13 := Lib.hid (show val.getD 13 undef = .pointer (some ⟨b, off + k * 2, none⟩) by rw [hval]; rfl)
      have E14 := Lib.hid (show val.getD 14 undef = .pointer (some ⟨b, off + k * 2 + 1, none⟩) by rw [hval]; rfl)
      have E15 := Lib.hid (show val.getD 15 undef = .int .i64 cz by rw [hval]; rfl)
      clear hval
      obtain ⟨G, hG0⟩ : ∃ G : Nat → Value → World → Prop, G = (fun i v w => (i = 16 → ∃ g, v = .slice (some ⟨g, 0, none⟩) 2 2 ∧ BoxN w g #[.int .i64 ck, .int .i64 cz] 3) ∧ (i = 17 → ∃ g c, v = .slice (some ⟨g, 0, none⟩) 4 c ∧ wr.heap.size ≤ g ∧ EL w v [T, 2, ck, cz]) ∧ (i = 18 → ∃ g c, v = .slice (some ⟨g, 0, none⟩) 4 c ∧ wr.heap.size ≤ g ∧ EL w v [T, 2, ck, cz]) ∧ (i ≠ 16 → i ≠ 17 → i ≠ 18 → v = val.getD i undef)) := ⟨_, rfl⟩
      have HG := Lib.hid hG0
      clear hG0
      refine region_inv (RS lit wr G) (by kernel_rfl) (by decide +kernel) ?_ ?_ ?_
      · exact ⟨fun i => ([u28, u29, u30, u31, u32, u33, u34, u35, u36, u37, u38, u39, u40, u41, u42, u43, u44, u45, u9] : List Value).getD i undef, (by rw [HLIT.out]; rfl), below_drew _ _, fun i h => by cases h⟩
      · refine ⟨?_, ?_, ?_, ?_, ?_, ?_, ?_, ?_, ?_, ?_, ?_, ?_, ?_, ?_, ?_, ?_, ?_, ?_, ?_, trivial⟩
        · intro bf ac wv hfb haf hJ K' hK
          obtain ⟨vs, rfl, hM, j4⟩ := hJ
          replace hK := Lib.hid hK
          replace hM := Lib.hid hM
          rw [HG.out] at j4
          replace j4 := Lib.hid j4
          clear haf hfb
          rw [HLIT.out]
          go_simp
          exact hK.out _ _ (RS.next (wv := wv) (vs := vs) 0 (x := .slice (some ⟨gt, 0, none⟩) (k + 1) tc) (by rw [HLIT.out]; rfl) (by rw [HG.out]; exact j4.out) hM.out (by rw [HG.out]; exact fun _ _ h => h) (by rw [HG.out]; exact ⟨fun h => absurd h (by decide), fun h => absurd h (by decide), fun h => absurd h (by decide), fun _ _ _ => E0.out.symm⟩))
        · intro bf ac wv hfb haf hJ K' hK
          obtain ⟨vs, rfl, hM, j4⟩ := hJ
          replace hK := Lib.hid hK
          replace hM := Lib.hid hM
          rw [HG.out] at j4
          replace j4 := Lib.hid j4
          clear haf hfb
          rw [HLIT.out]
          go_simp
          exact hK.out _ _ (RS.next (wv := wv) (vs := vs) 1 (x := .int .i64 k) (by rw [HLIT.out]; rfl) (by rw [HG.out]; exact j4.out) hM.out (by rw [HG.out]; exact fun _ _ h => h) (by rw [HG.out]; exact ⟨fun h => absurd h (by decide), fun h => absurd h (by decide), fun h => absurd h (by decide), fun _ _ _ => E1.out.symm⟩))
        · intro bf ac wv hfb haf hJ K' hK
          obtain ⟨vs, rfl, hM, j4⟩ := hJ
          replace hK := Lib.hid hK
          replace hM := Lib.hid hM
          rw [HG.out] at j4
          simp [Region.binds] at haf
          have e0 := ((j4 0 (by simp [haf])).2.2.2 (by decide) (by decide) (by decide)).trans E0.out
          have e1 := ((j4 1 (by simp [haf])).2.2.2 (by decide) (by decide) (by decide)).trans E1.out
          replace j4 := Lib.hid j4
          clear haf hfb
          have hb0 : (k : Int) < (k : Int) + 1 := by omega
          have hb1 : (0 : Int) ≤ (k : Int) := by omega
          rw [HLIT.out]
          go_simp
          exact hK.out _ _ (RS.next (wv := wv) (vs := vs) 2 (x := .pointer (some ⟨gt, k, none⟩)) (by rw [HLIT.out]; simp only [upv, e0, e1, Nat.reduceBEq, cond_true, cond_false]) (by rw [HG.out]; exact j4.out) hM.out (by rw [HG.out]; exact fun _ _ h => h) (by rw [HG.out]; exact ⟨fun h => absurd h (by decide), fun h => absurd h (by decide), fun h => absurd h (by decide), fun _ _ _ => E2.out.symm⟩))
        · intro bf ac wv hfb haf hJ K' hK
          obtain ⟨vs, rfl, hM, j4⟩ := hJ
          replace hK := Lib.hid hK
          replace hM := Lib.hid hM
          rw [HG.out] at j4
          simp [Region.binds] at haf
          have e2 := ((j4 2 (by simp [haf])).2.2.2 (by decide) (by decide) (by decide)).trans E2.out
          replace j4 := Lib.hid j4
          clear haf hfb
          have xg := keep1 hM.out XT.out
          have xgz := World.block_lt_of_cell? _ _ xg
          have xgz : gt < wv.heap.size := xgz
          rw [HLIT.out]
          go_simp
          exact hK.out _ _ (RS.next (wv := wv) (vs := vs) 3 (x := .int .i64 T) (by rw [HLIT.out]; simp only [upv, e2, Nat.reduceBEq, cond_true, cond_false]) (by rw [HG.out]; exact j4.out) hM.out (by rw [HG.out]; exact fun _ _ h => h) (by rw [HG.out]; exact ⟨fun h => absurd h (by decide), fun h => absurd h (by decide), fun h => absurd h (by decide), fun _ _ _ => E3.out.symm⟩))
        · intro bf ac wv hfb haf hJ K' hK
          obtain ⟨vs, rfl, hM, j4⟩ := hJ
          replace hK := Lib.hid hK
          replace hM := Lib.hid hM
          rw [HG.out] at j4
          replace j4 := Lib.hid j4
          clear haf hfb
          rw [HLIT.out]
          go_simp
          exact hK.out _ _ (RS.next (wv := wv) (vs := vs) 4 (x := .pointer (some ⟨w.heap.size, 1, none⟩)) (by rw [HLIT.out]; rfl) (by rw [HG.out]; exact j4.out) hM.out (by rw [HG.out]; exact fun _ _ h => h) (by rw [HG.out]; exact ⟨fun h => absurd h (by decide), fun h => absurd h (by decide), fun h => absurd h (by decide), fun _ _ _ => E4.out.symm⟩))
        · intro bf ac wv hfb haf hJ K' hK
          obtain ⟨vs, rfl, hM, j4⟩ := hJ
          replace hK := Lib.hid hK
          replace hM := Lib.hid hM
          rw [HG.out] at j4
          simp [Region.binds] at haf
          have e4 := ((j4 4 (by simp [haf])).2.2.2 (by decide) (by decide) (by decide)).trans E4.out
          replace j4 := Lib.hid j4
          clear haf hfb
          have xa1 := (HA.out.step hM.out).cs.c 1 rfl
          have xaz := (HA.out.step hM.out).lt
          rw [HLIT.out]
          go_simp
          exact hK.out _ _ (RS.next (wv := wv) (vs := vs) 5 (x := .slice (some ⟨b, off, none⟩) l.length cap) (by rw [HLIT.out]; simp only [upv, e4, Nat.reduceBEq, cond_true, cond_false]) (by rw [HG.out]; exact j4.out) hM.out (by rw [HG.out]; exact fun _ _ h => h) (by rw [HG.out]; exact ⟨fun h => absurd h (by decide), fun h => absurd h (by decide), fun h => absurd h (by decide), fun _ _ _ => E5.out.symm⟩))
        · intro bf ac wv hfb haf hJ K' hK
          obtain ⟨vs, rfl, hM, j4⟩ := hJ
          replace hK := Lib.hid hK
          replace hM := Lib.hid hM
          rw [HG.out] at j4
          replace j4 := Lib.hid j4
          clear haf hfb
          rw [HLIT.out]
          go_simp
          exact hK.out _ _ (RS.next (wv := wv) (vs := vs) 6 (x := .int .i64 k) (by rw [HLIT.out]; rfl) (by rw [HG.out]; exact j4.out) hM.out (by rw [HG.out]; exact fun _ _ h => h) (by rw [HG.out]; exact ⟨fun h => absurd h (by decide), fun h => absurd h (by decide), fun h => absurd h (by decide), fun _ _ _ => E6.out.symm⟩))
        · intro bf ac wv hfb haf hJ K' hK
          obtain ⟨vs, rfl, hM, j4⟩ := hJ
          replace hK := Lib.hid hK
          replace hM := Lib.hid hM
          rw [HG.out] at j4
          simp [Region.binds] at haf
          have e5 := ((j4 5 (by simp [haf])).2.2.2 (by decide) (by decide) (by decide)).trans E5.out
          have e6 := ((j4 6 (by simp [haf])).2.2.2 (by decide) (by decide) (by decide)).trans E6.out
          replace j4 := Lib.hid j4
          clear haf hfb
          rw [HLIT.out]
          go_simp
          exact hK.out _ _ (RS.next (wv := wv) (vs := vs) 7 (x := .pointer (some ⟨b, off + k * 2, none⟩)) (by rw [HLIT.out]; simp only [upv, e5, e6, Nat.reduceBEq, cond_true, cond_false]) (by rw [HG.out]; exact j4.out) hM.out (by rw [HG.out]; exact fun _ _ h => h) (by rw [HG.out]; exact ⟨fun h => absurd h (by decide), fun h => absurd h (by decide), fun h => absurd h (by decide), fun _ _ _ => E7.out.symm⟩))
        · intro bf ac wv hfb haf hJ K' hK
          obtain ⟨vs, rfl, hM, j4⟩ := hJ
          replace hK := Lib.hid hK
          replace hM := Lib.hid hM
          rw [HG.out] at j4
          simp [Region.binds] at haf
          have e7 := ((j4 7 (by simp [haf])).2.2.2 (by decide) (by decide) (by decide)).trans E7.out
          replace j4 := Lib.hid j4
          clear haf hfb
          rw [HLIT.out]
          go_simp
          exact hK.out _ _ (RS.next (wv := wv) (vs := vs) 8 (x := .pointer (some ⟨b, off + k * 2, none⟩)) (by rw [HLIT.out]; simp only [upv, e7, Nat.reduceBEq, cond_true, cond_false]) (by rw [HG.out]; exact j4.out) hM.out (by rw [HG.out]; exact fun _ _ h => h) (by rw [HG.out]; exact ⟨fun h => absurd h (by decide), fun h => absurd h (by decide), fun h => absurd h (by decide), fun _ _ _ => E8.out.symm⟩))
        · intro bf ac wv hfb haf hJ K' hK
          obtain ⟨vs, rfl, hM, j4⟩ := hJ
          replace hK := Lib.hid hK
          replace hM := Lib.hid hM
          rw [HG.out] at j4
          simp [Region.binds] at haf
          have e8 := ((j4 8 (by simp [haf])).2.2.2 (by decide) (by decide) (by decide)).trans E8.out
          replace j4 := Lib.hid j4
          clear haf hfb
          have xg := keep1 hM.out X0.out
          have xgz := World.block_lt_of_cell? _ _ xg
          have xgz : b < wv.heap.size := xgz
          rw [HLIT.out]
          go_simp
          exact hK.out _ _ (RS.next (wv := wv) (vs := vs) 9 (x := .int .i64 ck) (by rw [HLIT.out]; simp only [upv, e8, Nat.reduceBEq, cond_true, cond_false]) (by rw [HG.out]; exact j4.out) hM.out (by rw [HG.out]; exact fun _ _ h => h) (by rw [HG.out]; exact ⟨fun h => absurd h (by decide), fun h => absurd h (by decide), fun h => absurd h (by decide), fun _ _ _ => E9.out.symm⟩))
        · intro bf ac wv hfb haf hJ K' hK
          obtain ⟨vs, rfl, hM, j4⟩ := hJ
          replace hK := Lib.hid hK
          replace hM := Lib.hid hM
          rw [HG.out] at j4
          replace j4 := Lib.hid j4
          clear haf hfb
          rw [HLIT.out]
          go_simp
          exact hK.out _ _ (RS.next (wv := wv) (vs := vs) 10 (x := .pointer (some ⟨w.heap.size, 1, none⟩)) (by rw [HLIT.out]; rfl) (by rw [HG.out]; exact j4.out) hM.out (by rw [HG.out]; exact fun _ _ h => h) (by rw [HG.out]; exact ⟨fun h => absurd h (by decide), fun h => absurd h (by decide), fun h => absurd h (by decide), fun _ _ _ => E10.out.symm⟩))
        · intro bf ac wv hfb haf hJ K' hK
          obtain ⟨vs, rfl, hM, j4⟩ := hJ
          replace hK := Lib.hid hK
          replace hM := Lib.hid hM
          rw [HG.out] at j4
          simp [Region.binds] at haf
          have e10 := ((j4 10 (by simp [haf])).2.2.2 (by decide) (by decide) (by decide)).trans E10.out
          replace j4 := Lib.hid j4
          clear haf hfb
          have xa1 := (HA.out.step hM.out).cs.c 1 rfl
          have xaz := (HA.out.step hM.out).lt
          rw [HLIT.out]
          go_simp
          exact hK.out _ _ (RS.next (wv := wv) (vs := vs) 11 (x := .slice (some ⟨b, off, none⟩) l.length cap) (by rw [HLIT.out]; simp only [upv, e10, Nat.reduceBEq, cond_true, cond_false]) (by rw [HG.out]; exact j4.out) hM.out (by rw [HG.out]; exact fun _ _ h => h) (by rw [HG.out]; exact ⟨fun h => absurd h (by decide), fun h => absurd h (by decide), fun h => absurd h (by decide), fun _ _ _ => E11.out.symm⟩))
        · intro bf ac wv hfb haf hJ K' hK
          obtain ⟨vs, rfl, hM, j4⟩ := hJ
          replace hK := Lib.hid hK
          replace hM := Lib.hid hM
          rw [HG.out] at j4
          replace j4 := Lib.hid j4
          clear haf hfb
          rw [HLIT.out]
          go_simp
          exact hK.out _ _ (RS.next (wv := wv) (vs := vs) 12 (x := .int .i64 k) (by rw [HLIT.out]; rfl) (by rw [HG.out]; exact j4.out) hM.out (by rw [HG.out]; exact fun _ _ h => h) (by rw [HG.out]; exact ⟨fun h => absurd h (by decide), fun h => absurd h (by decide), fun h => absurd h (by decide), fun _ _ _ => E12.out.symm⟩))
        · intro bf ac wv hfb haf hJ K' hK
          obtain ⟨vs, rfl, hM, j4⟩ := hJ
          replace hK := Lib.hid hK
          replace hM := Lib.hid hM
          rw [HG.out] at j4
          simp [Region.binds] at haf
          have e11 := ((j4 11 (by simp [haf])).2.2.2 (by decide) (by decide) (by decide)).trans E11.out
          have e12 := ((j4 12 (by simp [haf])).2.2.2 (by decide) (by decide) (by decide)).trans E12.out
          replace j4 := Lib.hid j4
          clear haf hfb
          rw [HLIT.out]
          go_simp
          exact hK.out _ _ (RS.next (wv := wv) (vs := vs) 13 (x := .pointer (some ⟨b, off + k * 2, none⟩)) (by rw [HLIT.out]; simp only [upv, e11, e12, Nat.reduceBEq, cond_true, cond_false]) (by rw [HG.out]; exact j4.out) hM.out (by rw [HG.out]; exact fun _ _ h => h) (by rw [HG.out]; exact ⟨fun h => absurd h (by decide), fun h => absurd h (by decide), fun h => absurd h (by decide), fun _ _ _ => E13.out.symm⟩))
        · intro bf ac wv hfb haf hJ K' hK
          obtain ⟨vs, rfl, hM, j4⟩ := hJ
          replace hK := Lib.hid hK
          replace hM := Lib.hid hM
          rw [HG.out] at j4
          simp [Region.binds] at haf
          have e13 := ((j4 13 (by simp [haf])).2.2.2 (by decide) (by decide) (by decide)).trans E13.out
          replace j4 := Lib.hid j4
          clear haf hfb
          rw [HLIT.out]
          go_simp
          exact hK.out _ _ (RS.next (wv := wv) (vs := vs) 14 (x := .pointer (some ⟨b, off + k * 2 + 1, none⟩)) (by rw [HLIT.out]; simp only [upv, e13, Nat.reduceBEq, cond_true, cond_false]) (by rw [HG.out]; exact j4.out) hM.out (by rw [HG.out]; exact fun _ _ h => h) (by rw [HG.out]; exact ⟨fun h => absurd h (by decide), fun h => absurd h (by decide), fun h => absurd h (by decide), fun _ _ _ => E14.out.symm⟩))
        · intro bf ac wv hfb haf hJ K' hK
          obtain ⟨vs, rfl, hM, j4⟩ := hJ
          replace hK := Lib.hid hK
          replace hM := Lib.hid hM
          rw [HG.out] at j4
          simp [Region.binds] at haf
          have e14 := ((j4 14 (by simp [haf])).2.2.2 (by decide) (by decide) (by decide)).trans E14.out
          replace j4 := Lib.hid j4
          clear haf hfb
          have xg := keep1 hM.out X1.out
          have xgz := World.block_lt_of_cell? _ _ xg
          have xgz : b < wv.heap.size := xgz
          rw [HLIT.out]
          go_simp
          exact hK.out _ _ (RS.next (wv := wv) (vs := vs) 15 (x := .int .i64 cz) (by rw [HLIT.out]; simp only [upv, e14, Nat.reduceBEq, cond_true, cond_false]) (by rw [HG.out]; exact j4.out) hM.out (by rw [HG.out]; exact fun _ _ h => h) (by rw [HG.out]; exact ⟨fun h => absurd h (by decide), fun h => absurd h (by decide), fun h => absurd h (by decide), fun _ _ _ => E15.out.symm⟩))
        · intro bf ac wv hfb haf hJ K' hK
          obtain ⟨vs, rfl, hM, j4⟩ := hJ
          replace hK := Lib.hid hK
          replace hM := Lib.hid hM
          rw [HG.out] at j4
          simp [Region.binds] at haf
          have e9 := ((j4 9 (by simp [haf])).2.2.2 (by decide) (by decide) (by decide)).trans E9.out
          have e15 := ((j4 15 (by simp [haf])).2.2.2 (by decide) (by decide) (by decide)).trans E15.out
          replace j4 := Lib.hid j4
          clear haf hfb
          rw [HLIT.out]
          go_simp
          have b4 := al wv (.cells #[.int .i64 ck, .int .i64 cz] 3)
          exact hK.out _ _ (RS.next (wv := wv) (vs := vs) 16 (x := .slice (some ⟨wv.heap.size, 0, none⟩) 2 2) (by rw [HLIT.out]; simp only [upv, e9, e15, Nat.reduceBEq, cond_true, cond_false]) (by rw [HG.out]; exact j4.out) (keep2 b4 hM.out) (by rw [HG.out]; exact fun k v h => ⟨fun q => (h.1 q).imp fun gg q2 => ⟨q2.1, q2.2.step b4⟩, fun q => (h.2.1 q).imp fun gg q2 => q2.imp fun cc q3 => ⟨q3.1, q3.2.1, q3.2.2.step b4⟩, fun q => (h.2.2.1 q).imp fun gg q2 => q2.imp fun cc q3 => ⟨q3.1, q3.2.1, q3.2.2.step b4⟩, h.2.2.2⟩) (by rw [HG.out]; exact ⟨fun _ => ⟨wv.heap.size, rfl, BoxN.new wv #[.int .i64 ck, .int .i64 cz] 3⟩, fun h => absurd h (by decide), fun h => absurd h (by decide), fun h16 => absurd rfl h16⟩))
        · intro bf ac wv hfb haf hJ K' hK
          obtain ⟨vs, rfl, hM, j4⟩ := hJ
          replace hK := Lib.hid hK
          replace hM := Lib.hid hM
          rw [HG.out] at j4
          simp [Region.binds] at haf
          have e3 := ((j4 3 (by simp [haf])).2.2.2 (by decide) (by decide) (by decide)).trans E3.out
          have e16 := (j4 16 (by simp [haf])).1 rfl
          replace j4 := Lib.hid j4
          clear haf hfb
          obtain ⟨gb, e16, hgb⟩ := e16
          rw [HLIT.out]
          go_simp
          go_at_call 68
          refine (rtaggedO_any T _ [ck, cz] _ (ints_box hgb) (by simp) (by simp)).mono ?_
          rintro e w4 ⟨nv, rfl, hnv, b4⟩
          have hnv : w4.ownsRow wv.heap.size 3 1 nv 4 (([T, 2, ck, cz] : List Int).map (Value.int .i64)) := hnv
          obtain ⟨hel, gn, hgn, hgn2⟩ := el_of_row (xs := [T, 2, ck, cz]) hnv rfl (by simp)
          obtain ⟨gn2, nc, hnv2, -, -⟩ := row_cell (xs := [T, 2, ck, cz]) hnv (by simp)
          subst hnv2
          cases hgn
          exact hK.out _ _ (RS.next (wv := wv) (vs := vs) 17 (x := .slice (some ⟨gn2, 0, none⟩) 4 nc) (by rw [HLIT.out]; simp only [upv, e3, e16, Nat.reduceBEq, cond_true, cond_false]) (by rw [HG.out]; exact j4.out) (keep2 b4 hM.out) (by rw [HG.out]; exact fun k v h => ⟨fun q => (h.1 q).imp fun gg q2 => ⟨q2.1, q2.2.step b4⟩, fun q => (h.2.1 q).imp fun gg q2 => q2.imp fun cc q3 => ⟨q3.1, q3.2.1, q3.2.2.step b4⟩, fun q => (h.2.2.1 q).imp fun gg q2 => q2.imp fun cc q3 => ⟨q3.1, q3.2.1, q3.2.2.step b4⟩, h.2.2.2⟩) (by rw [HG.out]; exact ⟨fun h => absurd h (by decide), fun _ => ⟨gn2, nc, rfl, Nat.le_trans hM.out.size hgn2, hel⟩, fun h => absurd h (by decide), fun h16 => fun h17 => absurd rfl h17⟩))
        · intro bf ac wv hfb haf hJ K' hK
          obtain ⟨vs, rfl, hM, j4⟩ := hJ
          replace hK := Lib.hid hK
          replace hM := Lib.hid hM
          rw [HG.out] at j4
          simp [Region.binds] at haf
          have e17 := (j4 17 (by simp [haf])).2.1 rfl
          replace j4 := Lib.hid j4
          clear haf hfb
          obtain ⟨gn2, nc, e17, hgn2, hel⟩ := e17
          rw [HLIT.out]
          go_simp
          exact hK.out _ _ (RS.next (wv := wv) (vs := vs) 18 (x := .slice (some ⟨gn2, 0, none⟩) 4 nc) (by rw [HLIT.out]; simp only [upv, e17, Nat.reduceBEq, cond_true, cond_false]) (by rw [HG.out]; exact j4.out) hM.out (by rw [HG.out]; exact fun _ _ h => h) (by rw [HG.out]; exact ⟨fun h => absurd h (by decide), fun h => absurd h (by decide), fun _ => ⟨gn2, nc, rfl, hgn2, by rw [e17] at hel; exact hel⟩, fun h16 => fun h17 => fun h18 => absurd rfl h18⟩))
      · intro bf ac wv hall hJ
        obtain ⟨vs, rfl, hM, j4⟩ := hJ
        rw [HG.out] at j4
        obtain ⟨gn, nc, e18, hgn, hel⟩ := (j4 18 (hall 18 (by decide))).2.2.1 rfl
        rw [e18] at hel
        have hne : (Value.slice (some ⟨gn, 0, none⟩) 4 nc).ownBlock ≠ (Value.slice (some ⟨gt, 0, none⟩) (k + 1) tc).ownBlock := fun e => by
          have e : gn = gt := by simpa [Value.ownBlock] using e
          have := hgt.out
          omega
        replace HT := Lib.hid (row_step HT.out (hM.trans ((al wv (.cells #[.slice (some ⟨gn, 0, none⟩) 4 nc] 22)).mono hM.size)))
        replace HL := Lib.hid (row_step HL.out (hM.trans ((al wv (.cells #[.slice (some ⟨gn, 0, none⟩) 4 nc] 22)).mono hM.size)))
        replace HX := Lib.hid (((HX.out.step hM).snoc hel hne).step (al wv (.cells #[.slice (some ⟨gn, 0, none⟩) 4 nc] 22)))
        have HE := Lib.hid (hel.step (al wv (.cells #[.slice (some ⟨gn, 0, none⟩) 4 nc] 22)))
        replace HB := Lib.hid (HB.out.trans ((hM.trans ((al wv (.cells #[.slice (some ⟨gn, 0, none⟩) 4 nc] 22)).mono hM.size)).mono HB.out.size))
        replace HA := Lib.hid (HA.out.step (hM.trans ((al wv (.cells #[.slice (some ⟨gn, 0, none⟩) 4 nc] 22)).mono hM.size)))
        clear hM hall j4 hel hne hgn
        rw [← HLS.out, ← lsL_succ] at HX
        rw [HLIT.out]
        dsimp only
        rw [e18]
        clear e18
        have c1 : k + 1 + 1 ≤ maxLen := by unfold maxLen; omega
        have c2 : (k + 1 + 1) * 24 ≤ 140737488355328 := by omega
        have c3 : (k + 1 + 1) * 8 ≤ 140737488355328 := by omega
        clear xA1 zA
        go_wp2_with (at_builtin; refine wpList_append_own_at _ rfl _ _ 79 rfl w.heap.size 22 j0 _ 1 24 Try.underlying79 hj hy0 hy1 hy2 rfl (by decide) _ _ _ rfl HL.out ⟨wv.heap.size, 0, none⟩ 1 1 [.slice (some ⟨gn, 0, none⟩) 4 nc] rfl rfl (cell_one_new _ _ _) (by simp [Value.oneCell']) c1 c2 HB.out.size ?_; intro v' w1 hown hgrow _ _; have HO := Lib.hid hown; have HG := Lib.hid hgrow; clear hown hgrow)
        replace HX := Lib.hid (HX.out.rows HL.out HG.out)
        replace HE := Lib.hid (HE.out.grown HG.out (by obtain ⟨g9, n9, c9, cur9, h9, hb9, -⟩ := HE.out; rw [h9]; exact row_type HL.out hb9 (by decide)))
        replace HT := Lib.hid (row_keep HT.out HG.out (row_row HT.out HL.out (by decide)))
        replace HA := Lib.hid (box_grown HA.out HG.out (row_type HL.out HA.out (by decide)))
        replace HB := Lib.hid (HB.out.grown HG.out HB.out.size (fun k e => row_own HL.out k e))
        clear HL HG
        refine (rsumB_any _ [T, 2, ck, cz] _ (by obtain ⟨g9, n9, c9, cur9, h9, -, hi9⟩ := HE.out; exact hi9)).mono ?_
        rintro e u4 ⟨rfl, b4⟩
        rw [HTK.out]
        have e5 := b4.trans ((al u4 (.cells #[.int .i64 (tk (tg0 key id) l (k + 1))] 3)).mono b4.size)
        have HL := Lib.hid (row_step HO.out e5)
        replace HT := Lib.hid (row_step HT.out e5)
        replace HX := Lib.hid (HX.out.step e5)
        replace HA := Lib.hid (HA.out.step e5)
        replace HB := Lib.hid (HB.out.trans (e5.mono HB.out.size))
        clear HO b4 e5 HE
        go_wp2_with (at_builtin; refine wpList_append_own_at _ rfl _ _ 22 rfl w.heap.size 3 i0 _ 1 8 Try.underlying22 hi hz0 hz1 hz2 rfl (by decide) _ _ _ rfl HT.out ⟨u4.heap.size, 0, none⟩ 1 1 [.int .i64 (tk (tg0 key id) l (k + 1))] rfl rfl (cell_one_new _ _ _) (by simp [Value.oneCell']) c1 c3 HB.out.size ?_; intro v9 w9 hown hgrow _ hat; have HO := Lib.hid hown; have HG := Lib.hid hgrow; have HAT := Lib.hid hat; clear hown hgrow hat)
        replace HX := Lib.hid (HX.out.tags HG.out HAT.out)
        replace HL := Lib.hid (row_keep HL.out HG.out (row_row HL.out HT.out (by decide)))
        replace HA := Lib.hid (box_grown HA.out HG.out (row_type HT.out HA.out (by decide)))
        replace HB := Lib.hid (HB.out.grown HG.out HB.out.size (fun k e => row_own HT.out k e))
        clear HG HT HAT
        have HT := Lib.hid (show w9.ownsRow w.heap.size 3 1 v9 (k + 1 + 1) ((tkL key id l (k + 1 + 1)).map (Value.int .i64)) from by rw [tkL_succ, List.map_append]; exact HO.out)
        clear HO
        go_wp2
        go_roundw
        case rel => exact ⟨k + 1, _, HK1.out, by go_num, HT, HL, HX, HB, HA⟩
        case measure => have := HK1.out; simp [intOf]; omega
    · obtain rfl : k = l.length := by omega
      go_wp2
      exact bodyPost_ret (v := .tuple #[.slice (some ⟨gt, 0, none⟩) (l.length + 1) tc, .slice (some ⟨gz, 0, none⟩) (l.length + 1) zc]) (by simp [results, Try.results51, go_sem]) rfl ⟨_, _, rfl, ⟨zs, HT.out, HL.out, HX.out⟩, HB.out⟩
end Go.Proofs.Ytpoldplmaomkaaa
