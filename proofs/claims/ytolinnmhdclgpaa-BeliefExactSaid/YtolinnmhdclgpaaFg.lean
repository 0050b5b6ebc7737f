import Derived.Test.YtolinnmhdclgpaaFe
namespace Go.Proofs.Ytolinnmhdclgpaa
open Go.RowKit

/-- What the rounds keep. -/
structure IZ (L : List Od) (all : List Wo) (V : List Int) (M : List Od) (c : Int) (z : Od) : Prop where
  inv : Inv L all V M c
  nd : all.Nodup
  len : L.length ≤ 4
  zl : ∀ i, i < L.length → (L.getD i zO).a ≤ z.a ∧ (L.getD i zO).b ≤ z.b
  zc : c ≤ z.a
  za : -1 ≤ z.a ∧ z.a ≤ 1000000000
  zb : 0 ≤ z.b ∧ z.b ≤ 1000000000
/-- What holds ahead of 'Worlds'. -/
structure Pre (L : List Od) (all : List Wo) (V : List Int) (M : List Od) (c : Int) (z : Od) : Prop where
  ne : all ≠ []
  nd : all.Nodup
  len : L.length ≤ 4
  tr : ∀ y ∈ all, Tr L y.D y.v y.c V M ∧ y.c = c
  nxt : ∀ R : List Wo, R.Nodup → (∀ x ∈ all, x ∈ R) → Clo L R → (∀ x ∈ R, ∃ y ∈ all, Rch L y x) → IZ L R V M c z
theorem Tr.good {L : List Od} {D : Nat} {v c : Int} {V : List Int} {M : List Od} (h : Tr L D v c V M) (hl : L.length ≤ 4) : 0 ≤ v ∧ v < 16 ∧ D < 16 := by
  obtain ⟨A, r, B, hM, hr, -⟩ := h.src
  have h1 := okR_d (((isW_iff _ _).1 h.ok).2.2.2.1 r (by rw [hM]; simp))
  have h2 : 2 ^ L.length ≤ 2 ^ 4 := Nat.pow_le_pow_right (by omega) hl
  have h3 := h.bits
  rw [hr] at h1
  exact ⟨h1.1, h1.2, by omega⟩
section
variable {L : List Od} {all : List Wo} {V : List Int} {M : List Od} {c : Int} {z : Od}
theorem Pre.gd (h : Pre L all V M c z) (x y : Wo) (hy : y ∈ all) (hr : Rch L y x) : 0 ≤ x.v ∧ x.v < 16 ∧ x.D < 16 ∧ x.c = c := by
  obtain ⟨h1, h2⟩ := h.tr y hy
  obtain ⟨h3, h4, -⟩ := rch_tr hr h1
  obtain ⟨h5, h6, h7⟩ := h3.good h.len
  exact ⟨h5, h6, h7, h4.trans h2⟩
theorem Pre.num (h : Pre L all V M c z) : ∀ x ∈ L, -1000 ≤ x.a ∧ x.a ≤ 1000000000 := fun x hx => by
  cases ha : all with
  | nil => exact absurd ha h.ne
  | cons y l =>
    have h1 := (h.tr y (by rw [ha]; simp)).1
    have := (isO_parts (h1.vals x hx)).1
    omega
theorem Pre.lenA (h : Pre L all V M c z) : all.length ≤ 256 := wos_len h.nd fun x hx => h.gd x x hx .refl
theorem IZ.lens (h : IZ L all V M c z) : M.length ≤ 300 ∧ V.length ≤ 300 := by
  have := isW_lens h.inv.ok; exact ⟨this.2, this.1⟩
theorem IZ.good (h : IZ L all V M c z) : ∀ x ∈ all, 0 ≤ x.v ∧ x.v < 16 ∧ x.D < 16 ∧ x.c = c := fun x hx => by
  have h1 := (h.inv.tr x hx).good h.len
  exact ⟨h1.1, h1.2.1, h1.2.2, h.inv.cc x hx⟩
theorem IZ.lenA (h : IZ L all V M c z) : all.length ≤ 256 := wos_len h.nd h.good
theorem IZ.bit (h : IZ L all V M c z) : ∀ x ∈ all, x.D ≤ 2000000 := fun x hx => by have := h.good x hx; omega
theorem IZ.ne (h : IZ L all V M c z) : all ≠ [] := fun e => by
  obtain ⟨x, hx⟩ := h.inv.ne
  rw [e] at hx; cases hx
theorem IZ.same (h : IZ L all V M c z) : Pre L all V M c z :=
  ⟨h.ne, h.nd, h.len, fun y hy => ⟨h.inv.tr y hy, h.inv.cc y hy⟩, fun _ hn hs hc hr => ⟨h.inv.same hs hc hr, hn, h.len, h.zl, h.zc, h.za, h.zb⟩⟩
theorem IZ.sent (h : IZ L all V M c z) {o : Od} (ha : z.a < o.a) (hb : z.b ≤ o.b) (hl : L.length < 4) (hs : snE V M o = 0) : Pre (L ++ [o]) all (rV 0 (M ++ [o])) (rM 0 (M ++ [o])) c o := by
  have hs' : sdE M o = 0 := by rw [snE_W, if_pos h.inv.ok] at hs; exact hs
  have ho := isO_parts (sdE_ok hs').1
  have h1 : ∀ i, i < L.length → (L.getD i zO).a < o.a := fun i hi => by have := (h.zl i hi).1; omega
  have h2 : ∀ i, i < L.length → (L.getD i zO).b ≤ o.b := fun i hi => by have := (h.zl i hi).2; omega
  have h3 : c < o.a := by have := h.zc; omega
  refine ⟨h.ne, h.nd, by rw [List.length_append]; simp; omega, fun y hy => ⟨(h.inv.tr y hy).sent (by omega) h1 hs', h.inv.cc y hy⟩, fun R hn hs hc hr => ⟨h.inv.sent (by omega) h1 h2 h3 hs' hs hc hr, hn, by rw [List.length_append]; simp; omega, fun i hi => ?_, by omega, by omega, by omega⟩⟩
  rw [List.length_append, List.length_singleton] at hi
  by_cases e : i < L.length
  · rw [getD_app e]; have := h1 i e; have := h2 i e; exact ⟨by omega, by omega⟩
  · obtain rfl : i = L.length := by omega
    rw [getD_last]; exact ⟨Int.le_refl _, Int.le_refl _⟩
theorem flt_ne {k : Nat} (hne : all.filter (fun x : Wo => x.D.testBit k) ≠ []) : ∃ x, x ∈ all ∧ x.D.testBit k = true := by
  cases h : all.filter (fun x : Wo => x.D.testBit k) with
  | nil => exact absurd h hne
  | cons x l =>
    have hx : x ∈ all.filter (fun x : Wo => x.D.testBit k) := by rw [h]; simp
    exact ⟨x, List.mem_filter.1 hx⟩
theorem IZ.conf (h : IZ L all V M c z) {k : Nat} (hk : k < L.length) (hs : cnE V M (L.getD k zO).a = 0) (hne : all.filter (fun x : Wo => x.D.testBit k) ≠ []) : Pre L (all.filter fun x : Wo => x.D.testBit k) (rV 0 (cfM (L.getD k zO).a M)) (rM 0 (cfM (L.getD k zO).a M)) c z := by
  have hs' : cfE (L.getD k zO).a M = 0 := by rw [cnE_W, if_pos h.inv.ok] at hs; exact hs
  have mem : ∀ x, x ∈ all.filter (fun x : Wo => x.D.testBit k) ↔ x ∈ all ∧ x.D.testBit k = true := fun x => List.mem_filter
  refine ⟨hne, h.nd.filter _, h.len, fun y hy => ⟨(h.inv.tr y ((mem y).1 hy).1).conf hk ((mem y).1 hy).2 hs', h.inv.cc y ((mem y).1 hy).1⟩, fun R hn hsub hc hr => ⟨h.inv.conf hk hs' (flt_ne hne) (fun x hx hd => hsub x ((mem x).2 ⟨hx, hd⟩)) hc (fun x hx => ?_), hn, h.len, h.zl, h.zc, h.za, h.zb⟩⟩
  obtain ⟨y, hy, q⟩ := hr x hx
  exact ⟨y, ((mem y).1 hy).1, ((mem y).1 hy).2, q⟩
theorem IZ.late (h : IZ L all V M c z) {k : Nat} (hk : k < L.length) (hs : cnE V M (L.getD k zO).a ≠ 0) (hne : all.filter (fun x : Wo => x.D.testBit k) ≠ []) : Pre L (all.filter fun x : Wo => x.D.testBit k) V M c z := by
  have hs' : cfE (L.getD k zO).a M ≠ 0 := by rw [cnE_W, if_pos h.inv.ok] at hs; exact hs
  have mem : ∀ x, x ∈ all.filter (fun x : Wo => x.D.testBit k) ↔ x ∈ all ∧ x.D.testBit k = true := fun x => List.mem_filter
  refine ⟨hne, h.nd.filter _, h.len, fun y hy => ⟨h.inv.tr y ((mem y).1 hy).1, h.inv.cc y ((mem y).1 hy).1⟩, fun R hn hsub hc hr => ⟨h.inv.late hk hs' (flt_ne hne) (fun x hx hd => hsub x ((mem x).2 ⟨hx, hd⟩)) hc (fun x hx => ?_), hn, h.len, h.zl, h.zc, h.za, h.zb⟩⟩
  obtain ⟨y, hy, q⟩ := hr x hx
  exact ⟨y, ((mem y).1 hy).1, ((mem y).1 hy).2, q⟩
theorem IZ.rep (h : IZ L all V M c z) {w : Wo} (hw : w ∈ all) {t : Int} (ht : tpf w.D L w.c L.length = t) : rnE V M w.v t = 0 ∧ Pre L (rpw L w.v t all) (rV 0 (rpM M w.v t)) (rM 0 (rpM M w.v t)) t z := by
  have hE : rnE V M w.v t = 0 := by rw [rnE_W, if_pos h.inv.ok, ← ht]; exact (h.inv.tr w hw).rep.1
  refine ⟨hE, ?_⟩
  have mem : ∀ y, y ∈ rpw L w.v t all ↔ ∃ x, x ∈ all ∧ x.v = w.v ∧ tpf x.D L x.c L.length = t ∧ (⟨x.v, x.D, t⟩ : Wo) = y := fun y => by
    unfold rpw
    rw [List.mem_map]
    constructor
    · rintro ⟨x, hx, e⟩
      rw [List.mem_filter, Bool.and_eq_true, decide_eq_true_eq, decide_eq_true_eq] at hx
      exact ⟨x, hx.1, hx.2.1, hx.2.2, e⟩
    · rintro ⟨x, hx, h1, h2, e⟩
      exact ⟨x, List.mem_filter.2 ⟨hx, by rw [Bool.and_eq_true, decide_eq_true_eq, decide_eq_true_eq]; exact ⟨h1, h2⟩⟩, e⟩
  have htz : t ≤ z.a := by
    rw [← ht]
    rcases (tpf_prop w.D L w.c L.length).2.2 with q | ⟨i, hi, -, q⟩
    · rw [q, h.inv.cc w hw]; exact h.zc
    · rw [q]; exact (h.zl i hi).1
  have hnd : (rpw L w.v t all).Nodup := by
    unfold rpw
    have key : ∀ l : List Wo, l.Nodup → (∀ x ∈ l, x.c = c) → (l.map fun x : Wo => (⟨x.v, x.D, t⟩ : Wo)).Nodup := by
      intro l
      induction l with
      | nil => intro _ _; simp
      | cons x l ih =>
        intro hn hc
        rw [List.map_cons, List.nodup_cons]
        rw [List.nodup_cons] at hn
        refine ⟨fun q => ?_, ih hn.2 fun y hy => hc y (by simp [hy])⟩
        obtain ⟨y, hy, e⟩ := List.mem_map.1 q
        have e1 : y.v = x.v ∧ y.D = x.D := by simpa using e
        have e2 : y.c = x.c := by rw [hc y (by simp [hy]), hc x (by simp)]
        have : y = x := by cases x; cases y; simp at *; exact ⟨e1.1, e1.2, e2⟩
        exact hn.1 (by rw [← this]; exact hy)
    exact key _ (h.nd.filter _) fun x hx => h.inv.cc x (List.mem_filter.1 hx).1
  refine ⟨fun e => ?_, hnd, h.len, fun y hy => ?_, fun R hn hsub hc hr => ⟨(h.inv.rep hw ht (fun x hx h1 h2 => hsub _ ((mem _).2 ⟨x, hx, h1, h2, rfl⟩)) hc (fun x hx => ?_)).2, hn, h.len, h.zl, htz, h.za, h.zb⟩⟩
  · have := (mem ⟨w.v, w.D, t⟩).2 ⟨w, hw, rfl, ht, rfl⟩
    rw [e] at this; cases this
  · obtain ⟨x, hx, h1, h2, rfl⟩ := (mem y).1 hy
    have := (h.inv.tr x hx).rep.2
    rw [h1, h2] at this
    refine ⟨?_, rfl⟩
    rw [h1]; exact this
  · obtain ⟨y, hy, q⟩ := hr x hx
    obtain ⟨u, hu, h1, h2, rfl⟩ := (mem y).1 hy
    exact ⟨u, hu, h1, h2, q⟩
end
theorem IZ.start {v : Int} (h : 0 ≤ v ∧ v < 16) : IZ [] [⟨v, 0, -1⟩] [v] (bS (-1) v) (-1) ⟨-1, 0, 0, 0⟩ :=
  ⟨Inv.start h, by simp, by simp, fun i hi => by simp at hi, by decide, by decide, by decide⟩
open Go.RowKit

theorem wos_lt {w : World} {a : Option Addr} {n c : Nat} {l : List Wo} (h : WosAt w (.slice a n c) l) (hl : l ≠ []) : ∀ g o, a = some ⟨g, o, none⟩ → g < w.heap.size := by
  intro g o ha
  obtain ⟨k, hk⟩ : ∃ k, k < l.length := by
    cases l with
    | nil => exact absurd rfl hl
    | cons x l => exact ⟨0, by simp⟩
  obtain ⟨b, o2, e, y0, -⟩ := wos_at h hk
  rw [ha] at e
  obtain ⟨rfl, rfl⟩ : g = b ∧ o = o2 := by simpa using e
  exact World.block_lt_of_cell? _ _ y0
theorem wos_like {w w' : World} {a : Option Addr} {n c : Nat} {l : List Wo} (h : WosAt w (.slice a n c) l) (hb : l ≠ [] → ∀ g o, a = some ⟨g, o, none⟩ → g < w.heap.size → w'.heap[g]? = w.heap[g]?) : WosAt w' (.slice a n c) l := by
  obtain ⟨a2, cap, hv, h1, hm, hc⟩ := id h
  refine ⟨a2, cap, hv, h1, hm, fun hl => ?_⟩
  obtain ⟨b1, off, ha, hx⟩ := hc hl
  have hg : a = a2 := by simp at hv; exact hv.1
  have hq := hb hl b1 off (hg.trans ha) (wos_lt h hl b1 off (hg.trans ha))
  have hk : ∀ o, w'.cell? ⟨b1, o, none⟩ = w.cell? ⟨b1, o, none⟩ := fun o => World.cell?_of_block (a := ⟨b1, o, none⟩) hq
  refine ⟨b1, off, ha, fun i x hi => ?_⟩
  obtain ⟨q0, q1, q2⟩ := hx i x hi
  exact ⟨(hk _).trans q0, (hk _).trans q1, (hk _).trans q2⟩
theorem grown_wos {w w' : World} {a : Option Addr} {n c : Nat} {l : List Wo} {r : Option Nat} (h : WosAt w (.slice a n c) l) (hg : w.grownBy w' r) (hr : l ≠ [] → ∀ g o, a = some ⟨g, o, none⟩ → some g ≠ r) : WosAt w' (.slice a n c) l :=
  wos_like h fun hl g o e hlt => hg.block g hlt (hr hl g o e)
theorem Chg.wos {k n c : Nat} {a : Option Addr} {w w' : World} {l : List Wo} (h : Chg k w w') (hne : l ≠ [] → nb a k) (ho : WosAt w (.slice a n c) l) : WosAt w' (.slice a n c) l :=
  wos_like ho fun hl g o e hlt => h.block g hlt (hne hl g o e)
/-- The world of a run. -/
structure WX (base kb kl : Nat) (la : Option Addr) (lc : Nat) (L : List Od) (z : Od) (V : List Int) (M : List Od) (aa : Option Addr) (ac : Nat) (all : List Wo) (w : World) : Prop where
  bb : ∃ (ua : Option Addr) (uc : Nat) (fa : Option Addr) (fc : Nat), BoxN w kb #[.slice ua V.length uc, .slice fa M.length fc] 25 ∧ Rb V M ua uc fa fc w ∧ (V ≠ [] → Far la kl kl ua) ∧ (M ≠ [] → Far la kl kl fa)
  zb : Cs w kl #[.int .i64 z.a, .int .i64 z.b, .int .i64 z.c, .int .i64 z.d]
  row : w.ownsRow base 27 4 (.slice la L.length lc) L.length (ocs L)
  bs : base ≤ w.heap.size
  k1 : kb < base ∧ kl < base
  k2 : kb ≠ kl
  al : WosAt w (.slice aa all.length ac) all
  af : all ≠ [] → Far la kb kl aa
section
variable {base kb kl : Nat} {la : Option Addr} {lc : Nat} {L : List Od} {z : Od} {V : List Int} {M : List Od} {aa : Option Addr} {ac : Nat} {all : List Wo} {w w' : World}
theorem WX.step (h : WX base kb kl la lc L z V M aa ac all w) (hb : Below w.heap.size w w') : WX base kb kl la lc L z V M aa ac all w' := by
  obtain ⟨ua, uc, fa, fc, h1, h2, h3, h4⟩ := h.bb
  exact ⟨⟨ua, uc, fa, fc, h1.step hb, h2.step hb, h3, h4⟩, h.zb.step hb, row_step h.row hb, Nat.le_trans h.bs hb.size, h.k1, h.k2, h.al.step hb, h.af⟩
/-- The belief's box gets another belief. -/
theorem WX.putB {V' : List Int} {M' : List Od} {ua fa : Option Addr} {uc fc : Nat} (h : WX base kb kl la lc L z V M aa ac all w) (hr : Rb V' M' ua uc fa fc w) (h1 : V' ≠ [] → Far la kl kl ua) (h2 : M' ≠ [] → Far la kl kl fa) :
    WX base kb kl la lc L z V' M' aa ac all (putB w kb (.slice ua V'.length uc) (.slice fa M'.length fc)) := by
  obtain ⟨_, _, _, _, b1, -⟩ := h.bb
  have hc := putB_chg w kb (.slice ua V'.length uc) (.slice fa M'.length fc)
  exact ⟨⟨ua, uc, fa, fc, putB_box b1 _ _, hr.kept hc (sl_of b1), h1, h2⟩, hc.cs (Ne.symm h.k2) h.zb, row_chg h.row hc h.k1.1, Nat.le_trans h.bs hc.size, h.k1, h.k2, hc.wos (fun q => (h.af q).2.1) h.al, h.af⟩
/-- The last order's box is written. -/
theorem WX.setZ {z' : Od} (h : WX base kb kl la lc L z V M aa ac all w) (hc : Chg kl w w') (hcs : Cs w' kl #[.int .i64 z'.a, .int .i64 z'.b, .int .i64 z'.c, .int .i64 z'.d]) : WX base kb kl la lc L z' V M aa ac all w' := by
  obtain ⟨ua, uc, fa, fc, h1, h2, h3, h4⟩ := h.bb
  exact ⟨⟨ua, uc, fa, fc, (hc.block kb h1.lt h.k2).trans h1, rb_chg h2 hc (fun q => (h3 q).2.2) (fun q => (h4 q).2.2), h3, h4⟩, hcs, row_chg h.row hc h.k1.2, Nat.le_trans h.bs hc.size, h.k1, h.k2, hc.wos (fun q => (h.af q).2.2) h.al, h.af⟩
/-- Another list of states. -/
theorem WX.putA {aa' : Option Addr} {ac' : Nat} {all' : List Wo} (h : WX base kb kl la lc L z V M aa ac all w) (h1 : WosAt w (.slice aa' all'.length ac') all') (h2 : all' ≠ [] → Far la kb kl aa') : WX base kb kl la lc L z V M aa' ac' all' w :=
  ⟨h.bb, h.zb, h.row, h.bs, h.k1, h.k2, h1, h2⟩
end
/-- An order is appended to the row of the orders. -/
theorem WX.app {base kb kl : Nat} {la : Option Addr} {lc : Nat} {L : List Od} {z : Od} {V : List Int} {M : List Od} {aa : Option Addr} {ac : Nat} {all : List Wo} {w : World} {la' : Option Addr} {lc' : Nat} {x : Od} {w' : World} (h : WX base kb kl la lc L z V M aa ac all w) (hg : w.grownBy w' (Value.slice la L.length lc).ownBlock) (hr : w'.ownsRow base 27 4 (.slice la' (L ++ [x]).length lc') (L ++ [x]).length (ocs (L ++ [x])))
    (ha : (Value.slice la' (L ++ [x]).length lc').ownBlock = (Value.slice la L.length lc).ownBlock ∨ ∀ k, (Value.slice la' (L ++ [x]).length lc').ownBlock = some k → w.heap.size ≤ k) : WX base kb kl la' lc' (L ++ [x]) z V M aa ac all w' := by
  obtain ⟨ua, uc, fa, fc, h1, h2, h3, h4⟩ := h.bb
  have hk : ∀ k, k < base → some k ≠ (Value.slice la L.length lc).ownBlock := fun k hk e => by
    obtain ⟨-, -, h5⟩ := own_some h.row e; omega
  have hx : ∀ a : Option Addr, nb2 a la → ∀ g o, a = some ⟨g, o, none⟩ → some g ≠ (Value.slice la L.length lc).ownBlock := fun a hn g o e q => by
    obtain ⟨o', h5, -⟩ := own_some h.row q
    exact hn g o g o' e h5 rfl
  have hl' : ∀ a : Option Addr, (∀ g o, a = some ⟨g, o, none⟩ → g < w.heap.size) → nb2 a la → nb2 a la' := fun a hlt hn g o g' o' e e' => by
    rcases ha with q | q
    · have h6 : (Value.slice la' (L ++ [x]).length lc').ownBlock = some g' := by
        rcases hr.2 with ⟨e2, -⟩ | ⟨g2, cap, cur, e2, -⟩
        · have e3 : la' = none := by injection e2
          rw [e3] at e'; cases e'
        · have e3 : la' = some ⟨g2, 0, none⟩ := by injection e2
          rw [e3] at e' ⊢; cases e'; rfl
      rw [q] at h6
      obtain ⟨o2, h7, -⟩ := own_some h.row h6.symm
      exact hn g o g' o2 e h7
    · have h6 : (Value.slice la' (L ++ [x]).length lc').ownBlock = some g' := by
        rcases hr.2 with ⟨e2, -⟩ | ⟨g2, cap, cur, e2, -⟩
        · have e3 : la' = none := by injection e2
          rw [e3] at e'; cases e'
        · have e3 : la' = some ⟨g2, 0, none⟩ := by injection e2
          rw [e3] at e' ⊢; cases e'; rfl
      have := q g' h6
      have := hlt g o e
      omega
  refine ⟨⟨ua, uc, fa, fc, (hg.block kb h1.lt (hk kb h.k1.1)).trans h1, ⟨grown_ints h2.1 hg (fun q => hx ua (h3 q).1), grown_ods h2.2 hg (fun q => hx fa (h4 q).1)⟩, fun q => ⟨hl' ua (ints_lt h2.1 q) (h3 q).1, (h3 q).2⟩, fun q => ⟨hl' fa (ods_lt h2.2 q) (h4 q).1, (h4 q).2⟩⟩, grown_cs h.zb hg (hk kl h.k1.2), hr, Nat.le_trans h.bs hg.size, h.k1, h.k2, grown_wos h.al hg (fun q => hx aa (h.af q).1), fun q => ⟨hl' aa (wos_lt h.al q) (h.af q).1, (h.af q).2⟩⟩
theorem row_below {base : Nat} {la : Option Addr} {lc : Nat} {L : List Od} {w : World} {lo : Nat} {w1 : World} (hb : Below lo w1 w) (hlo : lo ≤ base) {w' : World} (hg : w.grownBy w' (Value.slice la L.length lc).ownBlock) (hr : w.ownsRow base 27 4 (.slice la L.length lc) L.length (ocs L)) (hs : lo ≤ w.heap.size) : Below lo w1 w' :=
  hb.grown hg hs fun k ek => by
    obtain ⟨-, -, h5⟩ := own_some hr ek.symm
    omega
/-- A row that is new. -/
theorem row_far {w w' : World} {base kb kl : Nat} {la : Option Addr} {lc : Nat} {L : List Od} {z : Od} {V : List Int} {M : List Od} {aa a : Option Addr} {ac n c m : Nat} {all : List Wo} {xs : List Value} (h : WX base kb kl la lc L z V M aa ac all w) (hr : w'.ownsRow w.heap.size 44 3 (.slice a n c) m xs) : Far la kb kl a := by
  have h1 : ∀ g o, a = some ⟨g, o, none⟩ → w.heap.size ≤ g := fun g o e => by
    rcases hr.2 with ⟨e2, -⟩ | ⟨g2, cap, cur, e2, h2, -⟩
    · have e3 : a = none := by injection e2
      rw [e3] at e; cases e
    · have e3 : a = some ⟨g2, 0, none⟩ := by injection e2
      rw [e3] at e; cases e; exact h2
  obtain ⟨ua, uc, fa, fc, hb, -⟩ := h.bb
  exact far_fresh h1 (row_lt h.row) hb.lt h.zb.2.2
theorem wapp_wx {base kb kl : Nat} {la la8 aa : Option Addr} {lc lc8 ac : Nat} {L : List Od} {z : Od} {V : List Int} {M : List Od} {all : List Wo} {w w8 : World} {x : Od} (h : WX base kb kl la lc L z V M aa ac all w) (hg : w.grownBy w8 (Value.slice la L.length lc).ownBlock)
    (hr : w8.ownsRow base 27 4 (.slice la8 (L.length + 1) lc8) (L.length + 1) (ocs L ++ [.int .i64 x.a, .int .i64 x.b, .int .i64 x.c, .int .i64 x.d]))
    (hd : (Value.slice la8 (L.length + 1) lc8).ownBlock = (Value.slice la L.length lc).ownBlock ∨ (Value.slice la8 (L.length + 1) lc8).ownBlock = some w.heap.size) : WX base kb kl la8 lc8 (L ++ [x]) z V M aa ac all w8 := by
  have e1 : (L ++ [x]).length = L.length + 1 := by simp
  refine h.app hg (by rw [e1, ocs_app, ocs_one]; exact hr) ?_
  rw [e1]
  rcases hd with q | q
  · exact .inl q
  · exact .inr fun k hk => by rw [q] at hk; cases hk; exact Nat.le_refl _
theorem wapp_cs {base k : Nat} {la : Option Addr} {lc : Nat} {L : List Od} {w w8 : World} {vs : Array Value} (h : w.ownsRow base 27 4 (.slice la L.length lc) L.length (ocs L)) (hg : w.grownBy w8 (Value.slice la L.length lc).ownBlock) (hc : Cs w k vs) (hk : ∀ g o, la = some ⟨g, o, none⟩ → g ≠ k) : Cs w8 k vs :=
  grown_cs hc hg fun e => by
    obtain ⟨o, h1, -⟩ := own_some h e
    exact hk k o h1 rfl
end Go.Proofs.Ytolinnmhdclgpaa
