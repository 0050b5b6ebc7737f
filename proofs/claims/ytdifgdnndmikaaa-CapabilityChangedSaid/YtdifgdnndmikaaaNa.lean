/- Capabilities: the reference's 'Narrow'. -/
import Derived.Test.YtdifgdnndmikaaaKv
import Derived.Laws.OwnMore
namespace Go.Proofs.Ytdifgdnndmikaaa
open Go.RowKit

/-- An append of a list of caveats that may be nil, as an equation. -/
theorem run_app (w : World) (base n : Nat) (v sl : Value) (xs : List Value) (l : List Cv) (ty : TypeId) (hown : w.ownsRow base 26 2 v n xs) (h : CvsAt w sl l) (hn : n + l.length ≤ 1000) (hb : base ≤ w.heap.size) :
    ∃ v' w', (Builtin.append_ #[22, 22] ty #[v, sl]).run Try.prog w = .ok v' w' ∧ w'.ownsRow base 26 2 v' (n + l.length) (xs ++ ccs l) ∧ w.grownBy w' v.ownBlock := by
  obtain ⟨i0, hi, hz0, hz1, hz2⟩ := info_parts info26
  obtain ⟨a, cap, rfl, hcp, hm, hc⟩ := h
  cases a with
  | none =>
    have hl : l = [] := by
      cases l with
      | nil => rfl
      | cons x l => obtain ⟨b, off, e, -⟩ := hc (by simp); cases e
    subst hl
    have hg : w.grownBy w v.ownBlock := ⟨rfl, rfl, rfl, Nat.le_refl _, fun _ _ _ => rfl⟩
    refine ⟨v, w, ?_, by simpa [ccs] using hown, hg⟩
    rcases hown.2 with ⟨rfl, rfl⟩ | ⟨g, c, cur, rfl, _, _, hnc, _⟩
    · simp [Builtin.append_, run_underlying Try.underlying22, sizeOf, typeInfo, hi, Builtin.lenOf, Builtin.firstCells]
    · simp [Builtin.append_, run_underlying Try.underlying22, sizeOf, typeInfo, hi, Builtin.lenOf, Builtin.firstCells, hnc, storeCells]
  | some ad =>
    have hcell := cvs_cells (w := w) (a := some ad) (cap := cap) (l := l) ⟨some ad, cap, rfl, hcp, hm, hc⟩ ad rfl
    obtain ⟨v', w', h1, h2, h3, -, -⟩ := run_append_own_at (P := Try.prog) w base 22 ty 26 i0 _ 2 16 Try.underlying22 hi hz0 hz1 hz2 rfl (by decide) v n xs hown ad l.length cap (ccs l) (ccs_len l) hcell (ccs_one_cell l) (by unfold maxLen; omega) (by omega) hb
    exact ⟨v', w', h1, h2, h3⟩
/-- An append whose equation is known, at a step of a region that draws its order. -/
theorem step_app {ops : Array Oper} {o : Oper} {a : Act} {w w' : World} {K : Act → World → Prop} {Q : Exit → Act → World → Prop} {E : Prop} (hgd : o.guard = none) (s x : Operand) (t : TypeId)
    (ho : o.op = .call { callee := .builtin .append, args := #[s, x], argTypes := #[t, t] }) (v sl v' : Value) (hs : a.eval s = v) (hx : a.eval x = sl)
    (hr : (Builtin.append_ #[t, t] o.type #[v, sl]).run Try.prog w = .ok v' w') (h : K (a.put o.dst v') w') :
    if Region.wanted o (yielded ops a.tmps) = true then Oper.wp Try.prog o a w K Q else E := by
  have hw : Region.wanted o (yielded ops a.tmps) = true := by simp [Region.wanted, hgd]
  rw [if_pos hw]
  unfold Oper.wp execOp
  simp only [ho, resolve, invoke, builtin, Sem.run_bind, Sem.run_pure, Result.andThen_ok, List.map_toArray, List.map_cons, List.map_nil, hs, hx, hr]
  exact h
/-- A row of another kind's block stays. -/
theorem box_grown {w w' : World} {g : Nat} {cs : Array Value} {t : TypeId} {row : Option Nat} (h : BoxN w g cs t) (hg : w.grownBy w' row) (hne : row ≠ some g) : BoxN w' g cs t :=
  (hg.block g h.lt (fun e => hne e.symm)).trans h
theorem row_type {w : World} {base e s n g : Nat} {v : Value} {xs : List Value} {cs : Array Value} {t : TypeId} (h : w.ownsRow base e s v n xs) (hb : BoxN w g cs t) (hne : t ≠ e) : v.ownBlock ≠ some g := by
  rcases h.2 with ⟨rfl, h0⟩ | ⟨g2, cap, cur, rfl, h2, h3, -⟩
  · intro e; cases e
  · intro e
    have e : g2 = g := by simpa [Value.ownBlock] using e
    rw [← e] at hb
    have h4 : w.heap[g2]? = some (.cells cs t (0, 0)) := hb
    rw [h3] at h4
    cases h4
    exact hne rfl
theorem box_size {w : World} {g g2 : Nat} {cs cs2 : Array Value} {t t2 : TypeId} (h : BoxN w g cs t) (h2 : BoxN w g2 cs2 t2) (hne : cs.size ≠ cs2.size) : g ≠ g2 := by
  intro e
  rw [← e] at h2
  have h3 : w.heap[g]? = some (.cells cs t (0, 0)) := h
  have h4 : w.heap[g]? = some (.cells cs2 t2 (0, 0)) := h2
  rw [h3] at h4
  cases h4
  exact hne rfl
theorem row_empty {w : World} {base g : Nat} (h : BoxN w g #[] 26) (hb : base ≤ g) : w.ownsRow base 26 2 (.slice (some ⟨g, 0, none⟩) 0 0) 0 [] := ⟨rfl, .inr ⟨g, 0, _, rfl, hb, h, by omega, by unfold maxLen; omega, rfl, rfl⟩⟩
/-- What comes up; c1, c2: the first, the second append has come up. -/
def Gr (val : List Value) (l : List Cv) (c : Cv) (n0 : Nat) (c1 c2 : Bool) (i : Nat) (v : Value) (w : World) : Prop :=
  (i = 2 → c1 = false → ∃ g, v = .slice (some ⟨g, 0, none⟩) 0 0 ∧ n0 ≤ g ∧ BoxN w g #[] 26) ∧
  (i = 5 → c2 = false → w.ownsRow n0 26 2 v l.length (ccs l)) ∧
  (i = 7 → c2 = false → ∃ g, v = .slice (some ⟨g, 0, none⟩) 1 1 ∧ BoxN w g #[.int .i64 c.k, .int .i64 c.v] 26) ∧
  (i = 8 → w.ownsRow n0 26 2 v (l.length + 1) (ccs (l ++ [c]))) ∧
  (i = 15 → ∃ g, v = .slice (some ⟨g, 0, none⟩) 2 2 ∧ BoxN w g #[.int .i64 c.k, .int .i64 c.v] 3) ∧
  (i = 17 → ∃ id u t, val.getD 1 undef = .int .i64 id ∧ val.getD 16 undef = .int .i64 t ∧ v = .agg #[.int .i64 id, u, .int .i64 t] ∧ w.ownsRow n0 26 2 u (l.length + 1) (ccs (l ++ [c]))) ∧
  ((i ≠ 2 ∧ i ≠ 5 ∧ i ≠ 7 ∧ i ≠ 8 ∧ i ≠ 15 ∧ i ≠ 17) → v = val.getD i undef)
theorem Gr.step {val : List Value} {l : List Cv} {c : Cv} {n0 : Nat} {c1 c2 : Bool} {w w1 : World} (hb : Below w.heap.size w w1) : ∀ i v, Gr val l c n0 c1 c2 i v w → Gr val l c n0 c1 c2 i v w1 := fun i v h =>
  ⟨fun e d => (h.1 e d).imp fun g q => ⟨q.1, q.2.1, q.2.2.step hb⟩, fun e d => row_step (h.2.1 e d) hb, fun e d => (h.2.2.1 e d).imp fun g q => ⟨q.1, q.2.step hb⟩, fun e => row_step (h.2.2.2.1 e) hb, fun e => (h.2.2.2.2.1 e).imp fun g q => ⟨q.1, q.2.step hb⟩,
    fun e => by
      obtain ⟨id, u, t, q1, q2, q3, q4⟩ := h.2.2.2.2.2.1 e
      exact ⟨id, u, t, q1, q2, q3, row_step q4 hb⟩, h.2.2.2.2.2.2⟩
/-- The region's invariant: until the result is stored, and behind it. -/
def NQ (lit : (Nat → Value) → Act) (G : Bool → Bool → Nat → Value → World → Prop) (B Fin : World → Prop) (bf : Nat → Bool) (ac : Act) (wv : World) : Prop :=
  ∃ vs, ac = lit vs ∧ (bf 19 = true → vs 19 = .int .i64 0) ∧
    ((bf 18 = false ∧ (bf 8 = true → bf 5 = true) ∧ (bf 17 = true → bf 8 = true) ∧ B wv ∧ ∀ i, i < 18 → bf i = true → G (bf 5) (bf 8) i (vs i) wv) ∨ (bf 18 = true ∧ (∀ i, i < 18 → bf i = true) ∧ Fin wv))
variable {lit : (Nat → Value) → Act} {G : Bool → Bool → Nat → Value → World → Prop} {B Fin : World → Prop} {bf : Nat → Bool} {ac : Act} {wv : World}
theorem NQ.open (h : NQ lit G B Fin bf ac wv) (i : Nat) (hi : i < 18) (hf : bf i = false) :
    ∃ vs, ac = lit vs ∧ (bf 19 = true → vs 19 = .int .i64 0) ∧ bf 18 = false ∧ (bf 8 = true → bf 5 = true) ∧ (bf 17 = true → bf 8 = true) ∧ B wv ∧ ∀ i, i < 18 → bf i = true → G (bf 5) (bf 8) i (vs i) wv := by
  obtain ⟨vs, h1, h2, ⟨h3, h4, h5, h6, h7⟩ | ⟨-, h4, -⟩⟩ := h
  · exact ⟨vs, h1, h2, h3, h4, h5, h6, h7⟩
  · rw [h4 i hi] at hf; cases hf
theorem NQ.next {vs : Nat → Value} (i : Nat) (hi : i < 18) (h17 : i = 17 → bf 8 = true) {c1 c2 : Bool} (e1 : up bf i 5 = c1) (e2 : up bf i 8 = c2) (h8 : c2 = true → c1 = true) {x : Value} {w' : World} {ac' : Act} (hac : ac' = lit (upv vs i x))
    (k : (bf 19 = true → vs 19 = .int .i64 0) ∧ bf 18 = false ∧ (bf 17 = true → bf 8 = true) ∧ ∀ i, i < 18 → bf i = true → G (bf 5) (bf 8) i (vs i) wv)
    (hb : B w') (hs : ∀ k, k ≠ i → bf k = true → G (bf 5) (bf 8) k (vs k) wv → G c1 c2 k (vs k) w') (hx : G c1 c2 i x w') : NQ lit G B Fin (up bf i) ac' w' := by
  obtain ⟨k1, k2, k3, k4⟩ := k
  refine ⟨upv vs i x, hac, fun h => ?_, .inl ⟨?_, ?_, fun h => ?_, hb, fun j hj hu => ?_⟩⟩
  · rw [up_ne _ _ _ (by omega)] at h; rw [upv_ne _ _ _ _ (by omega)]; exact k1 h
  · rw [up_ne _ _ _ (by omega)]; exact k2
  · rw [e1, e2]; exact h8
  · have h3 : bf 8 = true := by
      by_cases e : 17 = i
      · exact h17 e.symm
      · rw [up_ne _ _ _ e] at h; exact k3 h
    unfold up; rw [h3]; simp
  · rw [e1, e2]
    by_cases e : j = i
    · subst e; rw [upv_same]; exact hx
    · rw [up_ne _ _ _ e] at hu; rw [upv_ne _ _ _ _ e]; exact hs _ e hu (k4 j hj hu)
theorem NQ.open18 (h : NQ lit G B Fin bf ac wv) (hf : bf 18 = false) :
    ∃ vs, ac = lit vs ∧ (bf 19 = true → vs 19 = .int .i64 0) ∧ B wv ∧ ∀ i, i < 18 → bf i = true → G (bf 5) (bf 8) i (vs i) wv := by
  obtain ⟨vs, h1, h2, ⟨h3, -, -, h4, h5⟩ | ⟨h3, -⟩⟩ := h
  · exact ⟨vs, h1, h2, h4, h5⟩
  · rw [h3] at hf; cases hf
theorem NQ.fin {vs : Nat → Value} {w' : World} {ac' : Act} (hac : ac' = lit vs) (k : bf 19 = true → vs 19 = .int .i64 0) (ha : ∀ i, i < 18 → bf i = true) (hF : Fin w') : NQ lit G B Fin (up bf 18) ac' w' :=
  ⟨vs, hac, fun h => k (by rwa [up_ne _ _ _ (by omega)] at h), .inr ⟨up_same _ _, fun i hi => by rw [up_ne _ _ _ (by omega)]; exact ha i hi, hF⟩⟩
theorem NQ.open19 (h : NQ lit G B Fin bf ac wv) (hf : bf 18 = true) : ∃ vs, ac = lit vs ∧ (bf 19 = true → vs 19 = .int .i64 0) ∧ (∀ i, i < 18 → bf i = true) ∧ Fin wv := by
  obtain ⟨vs, h1, h2, ⟨h3, -⟩ | ⟨h3, h4, h5⟩⟩ := h
  · rw [h3] at hf; cases hf
  · exact ⟨vs, h1, h2, h4, h5⟩
theorem NQ.last {vs : Nat → Value} {ac' : Act} (hac : ac' = lit (upv vs 19 (.int .i64 0))) (h3 : bf 18 = true) (ha : ∀ i, i < 18 → bf i = true) (hF : Fin wv) : NQ lit G B Fin (up bf 19) ac' wv :=
  ⟨_, hac, fun _ => upv_same _ _ _, .inr ⟨by rw [up_ne _ _ _ (by omega)]; exact h3, fun i hi => by rw [up_ne _ _ _ (by omega)]; exact ha i hi, hF⟩⟩
theorem ints_box {w : World} {g : Nat} {k v : Int} (h : BoxN w g #[.int .i64 k, .int .i64 v] 3) : IntsAt w (.slice (some ⟨g, 0, none⟩) 2 2) [k, v] := by
  refine ⟨_, _, rfl, by unfold maxLen; simp, fun _ => ⟨g, 0, rfl, fun i x hi => ?_⟩⟩
  rw [Nat.zero_add, h.cell]
  rcases i with _ | _ | i
  · cases hi; rfl
  · cases hi; rfl
  · cases hi
theorem rtagN_any (tag k v : Int) (sl : Value) (w : World) (h : IntsAt w sl [k, v]) : Calls Try.prog 34 #[.int .i64 tag, sl] w fun e w' => e = .returned (.int .i64 (tgN tag ⟨k, v⟩)) ∧ Below w.heap.size w w' := rtag_any tag sl [k, v] w h (by simp) (by simp)
set_option maxRecDepth 100000 in
set_option maxHeartbeats 4000000 in
theorem rnarrow_ok (id tag k v : Int) (sl : Value) (l : List Cv) (w : World) (h : CvsAt w sl l) (hc : capB id tag l = true) (hv : cvB k v = true) (hn : l.length < 12) : Calls Try.prog 11 #[.agg #[.int .i64 id, sl, .int .i64 tag], .agg #[.int .i64 k, .int .i64 v]] w fun e w' => ∃ u, e = .returned (.tuple #[.agg #[.int .i64 id, u, .int .i64 (tgN tag ⟨k, v⟩)], .int .i64 0]) ∧ CvsAt w' u (l ++ [⟨k, v⟩]) ∧ Below w.heap.size w w' := by
  have H := Lib.hid h
  obtain ⟨a, cap, rfl, hcp, hm, -⟩ := h
  have HC := Lib.hid hc
  have HV := Lib.hid hv
  have hn2 : ((l.length : Int) == 12) = false := by simp; omega
  have hn3 : decide ((l.length : Int) = 12) = false := by simp; omega
  replace hn := Lib.hid hn
  clear hc hv hcp hm
  have HB0 := Lib.hid (Below.refl w.heap.size w)
  go_enter Try.func11, Try.ntmps11
  have KA_1 := Lib.hid (Cs.new w (w.heap.size) #[.int .i64 id, .slice a l.length cap, .int .i64 tag] 24 (by simp))
  have HB2 : Hid (Below w.heap.size w (w.alloc (.cells #[.int .i64 id, .slice a l.length cap, .int .i64 tag] 24))) := HB0.out.alloc HB0.out.size _
  clear HB0
  have KA_3 := Lib.hid (KA_1.out.alloc (.cells #[.int .i64 k, .int .i64 v] 26))
  clear KA_1
  have KV_4 := Lib.hid (Cs.new (w.alloc (.cells #[.int .i64 id, .slice a l.length cap, .int .i64 tag] 24)) (w.heap.size + 1) #[.int .i64 k, .int .i64 v] 26 (by simp))
  have HB5 : Hid (Below w.heap.size w ((w.alloc (.cells #[.int .i64 id, .slice a l.length cap, .int .i64 tag] 24)).alloc (.cells #[.int .i64 k, .int .i64 v] 26))) := HB2.out.alloc HB2.out.size _
  clear HB2
  have KA_6 := Lib.hid (KA_3.out.alloc (.cells #[.int .i64 0, .slice none 0 0, .int .i64 0] 24))
  clear KA_3
  have KV_7 := Lib.hid (KV_4.out.alloc (.cells #[.int .i64 0, .slice none 0 0, .int .i64 0] 24))
  clear KV_4
  have KR_8 := Lib.hid (Cs.new ((w.alloc (.cells #[.int .i64 id, .slice a l.length cap, .int .i64 tag] 24)).alloc (.cells #[.int .i64 k, .int .i64 v] 26)) (w.heap.size + 1 + 1) #[.int .i64 0, .slice none 0 0, .int .i64 0] 24 (by simp))
  have HB9 : Hid (Below w.heap.size w (((w.alloc (.cells #[.int .i64 id, .slice a l.length cap, .int .i64 tag] 24)).alloc (.cells #[.int .i64 k, .int .i64 v] 26)).alloc (.cells #[.int .i64 0, .slice none 0 0, .int .i64 0] 24))) := HB5.out.alloc HB5.out.size _
  clear HB5
  have xA0 : (((w.alloc (.cells #[.int .i64 id, .slice a l.length cap, .int .i64 tag] 24)).alloc (.cells #[.int .i64 k, .int .i64 v] 26)).alloc (.cells #[.int .i64 0, .slice none 0 0, .int .i64 0] 24)).cell? ⟨w.heap.size, 0, none⟩ = some (.int .i64 id) := KA_6.out.c 0 rfl
  have xA1 : (((w.alloc (.cells #[.int .i64 id, .slice a l.length cap, .int .i64 tag] 24)).alloc (.cells #[.int .i64 k, .int .i64 v] 26)).alloc (.cells #[.int .i64 0, .slice none 0 0, .int .i64 0] 24)).cell? ⟨w.heap.size, 1, none⟩ = some (.slice a l.length cap) := KA_6.out.c 1 rfl
  have xA2 : (((w.alloc (.cells #[.int .i64 id, .slice a l.length cap, .int .i64 tag] 24)).alloc (.cells #[.int .i64 k, .int .i64 v] 26)).alloc (.cells #[.int .i64 0, .slice none 0 0, .int .i64 0] 24)).cell? ⟨w.heap.size, 2, none⟩ = some (.int .i64 tag) := KA_6.out.c 2 rfl
  have zA : w.heap.size < (((w.alloc (.cells #[.int .i64 id, .slice a l.length cap, .int .i64 tag] 24)).alloc (.cells #[.int .i64 k, .int .i64 v] 26)).alloc (.cells #[.int .i64 0, .slice none 0 0, .int .i64 0] 24)).heap.size := KA_6.out.2.2
  have z2A : w.heap.size < (((w.alloc (.cells #[.int .i64 id, .slice a l.length cap, .int .i64 tag] 24)).alloc (.cells #[.int .i64 k, .int .i64 v] 26)).alloc (.cells #[.int .i64 0, .slice none 0 0, .int .i64 0] 24)).heap.size + 1 := by omega
  have xV0 : (((w.alloc (.cells #[.int .i64 id, .slice a l.length cap, .int .i64 tag] 24)).alloc (.cells #[.int .i64 k, .int .i64 v] 26)).alloc (.cells #[.int .i64 0, .slice none 0 0, .int .i64 0] 24)).cell? ⟨w.heap.size + 1, 0, none⟩ = some (.int .i64 k) := KV_7.out.c 0 rfl
  have xV1 : (((w.alloc (.cells #[.int .i64 id, .slice a l.length cap, .int .i64 tag] 24)).alloc (.cells #[.int .i64 k, .int .i64 v] 26)).alloc (.cells #[.int .i64 0, .slice none 0 0, .int .i64 0] 24)).cell? ⟨w.heap.size + 1, 1, none⟩ = some (.int .i64 v) := KV_7.out.c 1 rfl
  have zV : w.heap.size + 1 < (((w.alloc (.cells #[.int .i64 id, .slice a l.length cap, .int .i64 tag] 24)).alloc (.cells #[.int .i64 k, .int .i64 v] 26)).alloc (.cells #[.int .i64 0, .slice none 0 0, .int .i64 0] 24)).heap.size := KV_7.out.2.2
  have z2V : w.heap.size + 1 < (((w.alloc (.cells #[.int .i64 id, .slice a l.length cap, .int .i64 tag] 24)).alloc (.cells #[.int .i64 k, .int .i64 v] 26)).alloc (.cells #[.int .i64 0, .slice none 0 0, .int .i64 0] 24)).heap.size + 1 := by omega
  go_wp2_with fail
  refine (rcap_any id tag _ l _ (H.out.step HB9.out)).mono ?_
  rintro e u1 ⟨rfl, b1⟩
  clear xA0 xA1 xA2 zA z2A xV0 xV1 zV z2V
  have KA_10 := Lib.hid (KA_6.out.step b1)
  clear KA_6
  have KV_11 := Lib.hid (KV_7.out.step b1)
  clear KV_7
  have KR_12 := Lib.hid (KR_8.out.step b1)
  clear KR_8
  have HB13 := Lib.hid (keep2 b1 HB9.out)
  clear HB9 b1
  rw [HC.out]
  have xV0 : u1.cell? ⟨w.heap.size + 1, 0, none⟩ = some (.int .i64 k) := KV_11.out.c 0 rfl
  have xV1 : u1.cell? ⟨w.heap.size + 1, 1, none⟩ = some (.int .i64 v) := KV_11.out.c 1 rfl
  have zV : w.heap.size + 1 < u1.heap.size := KV_11.out.2.2
  have z2V : w.heap.size + 1 < u1.heap.size + 1 := by omega
  go_wp2_with fail
  refine (rcaveat_any k v _).mono ?_
  rintro e u2 ⟨rfl, b2⟩
  clear xV0 xV1 zV z2V
  have KA_14 := Lib.hid (KA_10.out.step b2)
  clear KA_10
  have KV_15 := Lib.hid (KV_11.out.step b2)
  clear KV_11
  have KR_16 := Lib.hid (KR_12.out.step b2)
  clear KR_12
  have HB17 := Lib.hid (keep2 b2 HB13.out)
  clear HB13 b2
  rw [HV.out]
  have xA0 : u2.cell? ⟨w.heap.size, 0, none⟩ = some (.int .i64 id) := KA_14.out.c 0 rfl
  have xA1 : u2.cell? ⟨w.heap.size, 1, none⟩ = some (.slice a l.length cap) := KA_14.out.c 1 rfl
  have xA2 : u2.cell? ⟨w.heap.size, 2, none⟩ = some (.int .i64 tag) := KA_14.out.c 2 rfl
  have zA : w.heap.size < u2.heap.size := KA_14.out.2.2
  have z2A : w.heap.size < u2.heap.size + 1 := by omega
  go_upto_region 5 with fail
  clear xA0 xA1 xA2 zA z2A
  obtain ⟨lit, hlit⟩ : ∃ lit : (Nat → Value) → Act, lit = fun vs => { tmps := #[Value.agg #[Value.int IntKind.i64 id, Value.slice a l.length cap, Value.int IntKind.i64 tag], Value.agg #[Value.int IntKind.i64 k, Value.int IntKind.i64 v], Value.pointer (some { block := w.heap.size, off := 0 }), Value.pointer (some { block := w.heap.size + 1, off := 0 }), Value.pointer (some { block := w.heap.size + 1 + 1, off := 0 }), vs 19, Value.agg #[Value.int IntKind.i64 id, Value.slice a l.length cap, Value.int IntKind.i64 tag], Value.bool true, Value.bool false, Value.bool false, Value.agg #[Value.int IntKind.i64 k, Value.int IntKind.i64 v], Value.bool true, Value.bool false, Value.bool false, undef, Value.pointer (some { block := w.heap.size, off := 1 }), Value.slice a l.length cap, Value.int IntKind.i64 (l.length : Int), Value.bool false, undef, vs 0, vs 1, vs 2, vs 3, vs 4, vs 5, vs 6, vs 7, vs 8, vs 9, vs 10, vs 11, vs 12, vs 13, vs 14, vs 15, vs 16, vs 17], defers := [] } := ⟨_, rfl⟩
  have HLIT := Lib.hid hlit
  clear hlit
  obtain ⟨val, hval⟩ : ∃ val : List Value, val = [.pointer (some ⟨w.heap.size, 0, none⟩), .int .i64 id, undef, .pointer (some ⟨w.heap.size, 1, none⟩), .slice a l.length cap, undef, .agg #[.int .i64 k, .int .i64 v], undef, undef, .pointer (some ⟨w.heap.size, 2, none⟩), .int .i64 tag, .pointer (some ⟨w.heap.size + 1, 0, none⟩), .int .i64 k, .pointer (some ⟨w.heap.size + 1, 1, none⟩), .int .i64 v, undef, .int .i64 (tgN tag ⟨k, v⟩), undef, undef, undef] := ⟨_, rfl⟩
  have E0 := Lib.hid (show val.getD 0 undef = .pointer (some ⟨w.heap.size, 0, none⟩) by rw [hval]; rfl)
  have E1 := Lib.hid (show val.getD 1 undef = .int .i64 id by rw [hval]; rfl)
  have E3 := Lib.hid (show val.getD 3 undef = .pointer (some ⟨w.heap.size, 1, none⟩) by rw [hval]; rfl)
  have E4 := Lib.hid (show val.getD 4 undef = .slice a l.length cap by rw [hval]; rfl)
  have E6 := Lib.hid (show val.getD 6 undef = .agg #[.int .i64 k, .int .i64 v] by rw [hval]; rfl)
  have E9 := Lib.hid (show val.getD 9 undef = .pointer (some ⟨w.heap.size, 2, none⟩) by rw [hval]; rfl)
  have E10 := Lib.hid (show val.getD 10 undef = .int .i64 tag by rw [hval]; rfl)
  have E11 := Lib.hid (show val.getD 11 undef = .pointer (some ⟨w.heap.size + 1, 0, none⟩) by rw [hval]; rfl)
  have E12 := Lib.hid (show val.getD 12 undef = .int .i64 k by rw [hval]; rfl)
  have E13 := Lib.hid (show val.getD 13 undef = .pointer (some ⟨w.heap.size + 1, 1, none⟩) by rw [hval]; rfl)
  have E14 := Lib.hid (show val.getD 14 undef = .int .i64 v by rw [hval]; rfl)
  have E16 := Lib.hid (show val.getD 16 undef = .int .i64 (tgN tag ⟨k, v⟩) by rw [hval]; rfl)
  clear hval
  have HS := Lib.hid (H.out.step HB17.out)
  have HZ := Lib.hid (show w.heap.size + 1 + 1 < u2.heap.size from KR_16.out.2.2)
  obtain ⟨G, hG0⟩ : ∃ G, G = Gr val l ⟨k, v⟩ u2.heap.size := ⟨_, rfl⟩
  have HG := Lib.hid hG0
  clear hG0
  refine region_inv (NQ lit G (Below u2.heap.size u2) fun wv => ∃ u, Cs wv (w.heap.size + 1 + 1) #[.int .i64 id, u, .int .i64 (tgN tag ⟨k, v⟩)] ∧ CvsAt wv u (l ++ [⟨k, v⟩]) ∧ Below w.heap.size w wv) (by kernel_rfl) (by decide +kernel) ?_ ?_ ?_
  · exact ⟨fun i => ([undef, undef, undef, undef, undef, undef, undef, undef, undef, undef, undef, undef, undef, undef, undef, undef, undef, undef, undef, Value.int IntKind.i64 0] : List Value).getD i undef, (by rw [HLIT.out]; rfl), fun h => (by cases h), .inl ⟨rfl, fun h => (by cases h), fun h => (by cases h), below_drew _ _, fun i _ h => (by cases h)⟩⟩
  · refine ⟨?_, ?_, ?_, ?_, ?_, ?_, ?_, ?_, ?_, ?_, ?_, ?_, ?_, ?_, ?_, ?_, ?_, ?_, ?_, ?_, trivial⟩
    · intro bf ac wv hfb haf hJ K' hK
      obtain ⟨vs, rfl, j1, j2, j8, j17, hM, j4⟩ := hJ.open 0 (by omega) hfb
      replace hK := Lib.hid hK
      have HM := Lib.hid hM
      clear hM
      rw [HG.out] at j4
      clear haf
      replace j4 := Lib.hid (And.intro j1 (And.intro j2 (And.intro j17 j4)))
      replace j8 := Lib.hid j8
      clear j1 j2 j17
      rw [HLIT.out]
      go_simp
      exact hK.out _ _ (NQ.next (vs := vs) 0 (by omega) (fun h => by omega) (up_ne _ _ _ (by omega)) (up_ne _ _ _ (by omega)) j8.out (x := .pointer (some ⟨w.heap.size, 0, none⟩)) (by rw [HLIT.out]; rfl) (by rw [HG.out]; exact j4.out) HM.out (by rw [HG.out]; exact fun _ _ _ h => h) (by rw [HG.out]; exact ⟨fun h => absurd h (by decide), fun h => absurd h (by decide), fun h => absurd h (by decide), fun h => absurd h (by decide), fun h => absurd h (by decide), fun h => absurd h (by decide), fun _ => E0.out.symm⟩))
    · intro bf ac wv hfb haf hJ K' hK
      obtain ⟨vs, rfl, j1, j2, j8, j17, hM, j4⟩ := hJ.open 1 (by omega) hfb
      replace hK := Lib.hid hK
      have HM := Lib.hid hM
      clear hM
      simp [Region.binds] at haf
      rw [HG.out] at j4
      have e0 : vs 0 = _ := ((j4 0 (by omega) (by simp [haf])).2.2.2.2.2.2 ⟨by decide, by decide, by decide, by decide, by decide, by decide⟩).trans E0.out
      clear haf
      replace j4 := Lib.hid (And.intro j1 (And.intro j2 (And.intro j17 j4)))
      replace j8 := Lib.hid j8
      clear j1 j2 j17
      have K1 := KA_14.out.step HM.out
      have x0 := K1.c 0 rfl
      have xz := K1.2.2
      clear K1
      rw [HLIT.out]
      go_simp
      exact hK.out _ _ (NQ.next (vs := vs) 1 (by omega) (fun h => by omega) (up_ne _ _ _ (by omega)) (up_ne _ _ _ (by omega)) j8.out (x := .int .i64 id) (by rw [HLIT.out]; simp only [upv, e0, Nat.reduceBEq, cond_true, cond_false]) (by rw [HG.out]; exact j4.out) HM.out (by rw [HG.out]; exact fun _ _ _ h => h) (by rw [HG.out]; exact ⟨fun h => absurd h (by decide), fun h => absurd h (by decide), fun h => absurd h (by decide), fun h => absurd h (by decide), fun h => absurd h (by decide), fun h => absurd h (by decide), fun _ => E1.out.symm⟩))
    · intro bf ac wv hfb haf hJ K' hK
      obtain ⟨vs, rfl, j1, j2, j8, j17, hM, j4⟩ := hJ.open 2 (by omega) hfb
      replace hK := Lib.hid hK
      have HM := Lib.hid hM
      clear hM
      rw [HG.out] at j4
      clear haf
      replace j4 := Lib.hid (And.intro j1 (And.intro j2 (And.intro j17 j4)))
      replace j8 := Lib.hid j8
      clear j1 j2 j17
      rw [HLIT.out]
      go_simp
      exact hK.out _ _ (NQ.next (vs := vs) 2 (by omega) (fun h => by omega) (up_ne _ _ _ (by omega)) (up_ne _ _ _ (by omega)) j8.out (x := .slice (some ⟨wv.heap.size, 0, none⟩) 0 0) (by rw [HLIT.out]; rfl) (by rw [HG.out]; exact j4.out) (keep2 (al _ _) HM.out) (by rw [HG.out]; exact fun k _ _ h => Gr.step (al _ _) k _ h) (by rw [HG.out]; exact ⟨fun _ _ => ⟨wv.heap.size, rfl, HM.out.size, BoxN.new wv #[] 26⟩, fun h => absurd h (by decide), fun h => absurd h (by decide), fun h => absurd h (by decide), fun h => absurd h (by decide), fun h => absurd h (by decide), fun h => absurd rfl h.1⟩))
    · intro bf ac wv hfb haf hJ K' hK
      obtain ⟨vs, rfl, j1, j2, j8, j17, hM, j4⟩ := hJ.open 3 (by omega) hfb
      replace hK := Lib.hid hK
      have HM := Lib.hid hM
      clear hM
      rw [HG.out] at j4
      clear haf
      replace j4 := Lib.hid (And.intro j1 (And.intro j2 (And.intro j17 j4)))
      replace j8 := Lib.hid j8
      clear j1 j2 j17
      rw [HLIT.out]
      go_simp
      exact hK.out _ _ (NQ.next (vs := vs) 3 (by omega) (fun h => by omega) (up_ne _ _ _ (by omega)) (up_ne _ _ _ (by omega)) j8.out (x := .pointer (some ⟨w.heap.size, 1, none⟩)) (by rw [HLIT.out]; rfl) (by rw [HG.out]; exact j4.out) HM.out (by rw [HG.out]; exact fun _ _ _ h => h) (by rw [HG.out]; exact ⟨fun h => absurd h (by decide), fun h => absurd h (by decide), fun h => absurd h (by decide), fun h => absurd h (by decide), fun h => absurd h (by decide), fun h => absurd h (by decide), fun _ => E3.out.symm⟩))
    · intro bf ac wv hfb haf hJ K' hK
      obtain ⟨vs, rfl, j1, j2, j8, j17, hM, j4⟩ := hJ.open 4 (by omega) hfb
      replace hK := Lib.hid hK
      have HM := Lib.hid hM
      clear hM
      simp [Region.binds] at haf
      rw [HG.out] at j4
      have e3 : vs 3 = _ := ((j4 3 (by omega) (by simp [haf])).2.2.2.2.2.2 ⟨by decide, by decide, by decide, by decide, by decide, by decide⟩).trans E3.out
      clear haf
      replace j4 := Lib.hid (And.intro j1 (And.intro j2 (And.intro j17 j4)))
      replace j8 := Lib.hid j8
      clear j1 j2 j17
      have K1 := KA_14.out.step HM.out
      have x1 := K1.c 1 rfl
      have xz := K1.2.2
      clear K1
      rw [HLIT.out]
      go_simp
      exact hK.out _ _ (NQ.next (vs := vs) 4 (by omega) (fun h => by omega) (up_ne _ _ _ (by omega)) (up_ne _ _ _ (by omega)) j8.out (x := .slice a l.length cap) (by rw [HLIT.out]; simp only [upv, e3, Nat.reduceBEq, cond_true, cond_false]) (by rw [HG.out]; exact j4.out) HM.out (by rw [HG.out]; exact fun _ _ _ h => h) (by rw [HG.out]; exact ⟨fun h => absurd h (by decide), fun h => absurd h (by decide), fun h => absurd h (by decide), fun h => absurd h (by decide), fun h => absurd h (by decide), fun h => absurd h (by decide), fun _ => E4.out.symm⟩))
    · intro bf ac wv hfb haf hJ K' hK
      obtain ⟨vs, rfl, j1, j2, j8, j17, hM, j4⟩ := hJ.open 5 (by omega) hfb
      replace hK := Lib.hid hK
      have HM := Lib.hid hM
      clear hM
      simp [Region.binds] at haf
      rw [HG.out] at j4
      rw [hfb] at j4
      have h8f : bf 8 = false := Bool.eq_false_iff.2 fun h => absurd ((j8 h).symm.trans hfb) (by simp)
      have h17f : bf 17 = false := Bool.eq_false_iff.2 fun h => absurd ((j17 h).symm.trans h8f) (by simp)
      rw [h8f] at j4
      obtain ⟨g2, e2, hg2, hb2⟩ := (j4 2 (by omega) (by simp [haf])).1 rfl rfl
      have e4 : vs 4 = _ := ((j4 4 (by omega) (by simp [haf])).2.2.2.2.2.2 ⟨by decide, by decide, by decide, by decide, by decide, by decide⟩).trans E4.out
      obtain ⟨v5, w5, hr5, ho5, hg5⟩ := run_app wv u2.heap.size 0 (.slice (some ⟨g2, 0, none⟩) 0 0) (.slice a l.length cap) [] l 22 (row_empty hb2 hg2) (HS.out.step HM.out) (by have := hn.out; omega) HM.out.size
      rw [Nat.zero_add, List.nil_append] at ho5
      rw [HLIT.out]
      refine step_app rfl _ _ 22 rfl _ _ v5 e2 e4 hr5 ?_
      exact hK.out _ _ (NQ.next (vs := vs) 5 (by omega) (fun h => by omega) (up_same _ _) ((up_ne _ _ _ (by omega)).trans h8f) (fun _ => rfl) (x := v5) (by rw [HLIT.out]; rfl) (by rw [HG.out, hfb, h8f]; exact ⟨j1, j2, fun h => absurd (h17f.symm.trans h) (by simp), j4⟩) (HM.out.grown hg5 HM.out.size (fun k e => by cases e; exact hg2)) (by
        rw [HG.out, hfb, h8f]
        exact fun k hk hbk h => ⟨fun _ d => (by cases d), fun e => absurd e hk, fun e d => (h.2.2.1 e d).imp fun g q => ⟨q.1, box_grown q.2 hg5 (fun e => box_size q.2 hb2 (by simp) (by cases e; rfl))⟩, fun e => absurd ((e ▸ hbk : bf 8 = true).symm.trans h8f) (by simp), fun e => (h.2.2.2.2.1 e).imp fun g q => ⟨q.1, box_grown q.2 hg5 (fun e => box_size q.2 hb2 (by simp) (by cases e; rfl))⟩, fun e => absurd ((e ▸ hbk : bf 17 = true).symm.trans h17f) (by simp), h.2.2.2.2.2.2⟩) (by rw [HG.out]; exact ⟨fun h => absurd h (by decide), fun _ _ => ho5, fun h => absurd h (by decide), fun h => absurd h (by decide), fun h => absurd h (by decide), fun h => absurd h (by decide), fun h => absurd rfl h.2.1⟩))
    · intro bf ac wv hfb haf hJ K' hK
      obtain ⟨vs, rfl, j1, j2, j8, j17, hM, j4⟩ := hJ.open 6 (by omega) hfb
      replace hK := Lib.hid hK
      have HM := Lib.hid hM
      clear hM
      rw [HG.out] at j4
      clear haf
      replace j4 := Lib.hid (And.intro j1 (And.intro j2 (And.intro j17 j4)))
      replace j8 := Lib.hid j8
      clear j1 j2 j17
      have K1 := KV_15.out.step HM.out
      have x0 := K1.c 0 rfl
      have x1 := K1.c 1 rfl
      have xz := K1.2.2
      clear K1
      rw [HLIT.out]
      go_simp
      exact hK.out _ _ (NQ.next (vs := vs) 6 (by omega) (fun h => by omega) (up_ne _ _ _ (by omega)) (up_ne _ _ _ (by omega)) j8.out (x := .agg #[.int .i64 k, .int .i64 v]) (by rw [HLIT.out]; rfl) (by rw [HG.out]; exact j4.out) HM.out (by rw [HG.out]; exact fun _ _ _ h => h) (by rw [HG.out]; exact ⟨fun h => absurd h (by decide), fun h => absurd h (by decide), fun h => absurd h (by decide), fun h => absurd h (by decide), fun h => absurd h (by decide), fun h => absurd h (by decide), fun _ => E6.out.symm⟩))
    · intro bf ac wv hfb haf hJ K' hK
      obtain ⟨vs, rfl, j1, j2, j8, j17, hM, j4⟩ := hJ.open 7 (by omega) hfb
      replace hK := Lib.hid hK
      have HM := Lib.hid hM
      clear hM
      simp [Region.binds] at haf
      rw [HG.out] at j4
      have e6 : vs 6 = _ := ((j4 6 (by omega) (by simp [haf])).2.2.2.2.2.2 ⟨by decide, by decide, by decide, by decide, by decide, by decide⟩).trans E6.out
      clear haf
      replace j4 := Lib.hid (And.intro j1 (And.intro j2 (And.intro j17 j4)))
      replace j8 := Lib.hid j8
      clear j1 j2 j17
      rw [HLIT.out]
      go_simp
      exact hK.out _ _ (NQ.next (vs := vs) 7 (by omega) (fun h => by omega) (up_ne _ _ _ (by omega)) (up_ne _ _ _ (by omega)) j8.out (x := .slice (some ⟨wv.heap.size, 0, none⟩) 1 1) (by rw [HLIT.out]; simp only [upv, e6, Nat.reduceBEq, cond_true, cond_false]) (by rw [HG.out]; exact j4.out) (keep2 (al _ _) HM.out) (by rw [HG.out]; exact fun k _ _ h => Gr.step (al _ _) k _ h) (by rw [HG.out]; exact ⟨fun h => absurd h (by decide), fun h => absurd h (by decide), fun _ _ => ⟨wv.heap.size, rfl, BoxN.new wv #[.int .i64 k, .int .i64 v] 26⟩, fun h => absurd h (by decide), fun h => absurd h (by decide), fun h => absurd h (by decide), fun h => absurd rfl h.2.2.1⟩))
    · intro bf ac wv hfb haf hJ K' hK
      obtain ⟨vs, rfl, j1, j2, j8, j17, hM, j4⟩ := hJ.open 8 (by omega) hfb
      replace hK := Lib.hid hK
      have HM := Lib.hid hM
      clear hM
      simp [Region.binds] at haf
      rw [HG.out] at j4
      rw [hfb] at j4
      have h17f : bf 17 = false := Bool.eq_false_iff.2 fun h => absurd ((j17 h).symm.trans hfb) (by simp)
      have h5t : bf 5 = true := by simp [haf]
      rw [h5t] at j4
      have e5 := (j4 5 (by omega) h5t).2.1 rfl rfl
      obtain ⟨g7, e7, hb7⟩ := (j4 7 (by omega) (by simp [haf])).2.2.1 rfl rfl
      have nx : ∀ j u, ([.int .i64 k, .int .i64 v] : List Value)[j]? = some u → wv.cell? ((⟨g7, 0, none⟩ : Addr).add j) = some u := World.news_of_block hb7
      obtain ⟨i0, hi, hz0, hz1, hz2⟩ := info_parts info26
      obtain ⟨v8, w8, hr8, ho8, hg8, -, -⟩ := run_append_own_at (P := Try.prog) wv u2.heap.size 22 22 26 i0 _ 2 16 Try.underlying22 hi hz0 hz1 hz2 rfl (by decide) (vs 5) l.length (ccs l) e5 ⟨g7, 0, none⟩ 1 1 [.int .i64 k, .int .i64 v] rfl nx (by simp [Value.oneCell']) (by have := hn.out; unfold maxLen; omega) (by have := hn.out; omega) HM.out.size
      rw [HLIT.out]
      refine step_app rfl _ _ 22 rfl _ _ v8 rfl e7 hr8 ?_
      exact hK.out _ _ (NQ.next (vs := vs) 8 (by omega) (fun h => by omega) ((up_ne _ _ _ (by omega)).trans h5t) (up_same _ _) (fun _ => rfl) (x := v8) (by rw [HLIT.out]; rfl) (by rw [HG.out, hfb, h5t]; exact ⟨j1, j2, fun h => absurd (h17f.symm.trans h) (by simp), j4⟩) (HM.out.grown hg8 HM.out.size (fun k e => row_own e5 k e)) (by
        rw [HG.out, hfb, h5t]
        exact fun k hk hbk h => ⟨fun _ d => (by cases d), fun _ d => (by cases d), fun _ d => (by cases d), fun e => absurd e hk, fun e => (h.2.2.2.2.1 e).imp fun g q => ⟨q.1, box_grown q.2 hg8 (row_type e5 q.2 (by decide))⟩, fun e => absurd ((e ▸ hbk : bf 17 = true).symm.trans h17f) (by simp), h.2.2.2.2.2.2⟩) (by rw [HG.out]; exact ⟨fun h => absurd h (by decide), fun h => absurd h (by decide), fun h => absurd h (by decide), fun _ => (show w8.ownsRow _ 26 2 v8 (l.length + 1) (ccs (l ++ [⟨k, v⟩])) by rw [ccs_app, ccs_one]; exact ho8), fun h => absurd h (by decide), fun h => absurd h (by decide), fun h => absurd rfl h.2.2.2.1⟩))
    · intro bf ac wv hfb haf hJ K' hK
      obtain ⟨vs, rfl, j1, j2, j8, j17, hM, j4⟩ := hJ.open 9 (by omega) hfb
      replace hK := Lib.hid hK
      have HM := Lib.hid hM
      clear hM
      rw [HG.out] at j4
      clear haf
      replace j4 := Lib.hid (And.intro j1 (And.intro j2 (And.intro j17 j4)))
      replace j8 := Lib.hid j8
      clear j1 j2 j17
      rw [HLIT.out]
      go_simp
      exact hK.out _ _ (NQ.next (vs := vs) 9 (by omega) (fun h => by omega) (up_ne _ _ _ (by omega)) (up_ne _ _ _ (by omega)) j8.out (x := .pointer (some ⟨w.heap.size, 2, none⟩)) (by rw [HLIT.out]; rfl) (by rw [HG.out]; exact j4.out) HM.out (by rw [HG.out]; exact fun _ _ _ h => h) (by rw [HG.out]; exact ⟨fun h => absurd h (by decide), fun h => absurd h (by decide), fun h => absurd h (by decide), fun h => absurd h (by decide), fun h => absurd h (by decide), fun h => absurd h (by decide), fun _ => E9.out.symm⟩))
    · intro bf ac wv hfb haf hJ K' hK
      obtain ⟨vs, rfl, j1, j2, j8, j17, hM, j4⟩ := hJ.open 10 (by omega) hfb
      replace hK := Lib.hid hK
      have HM := Lib.hid hM
      clear hM
      simp [Region.binds] at haf
      rw [HG.out] at j4
      have e9 : vs 9 = _ := ((j4 9 (by omega) (by simp [haf])).2.2.2.2.2.2 ⟨by decide, by decide, by decide, by decide, by decide, by decide⟩).trans E9.out
      clear haf
      replace j4 := Lib.hid (And.intro j1 (And.intro j2 (And.intro j17 j4)))
      replace j8 := Lib.hid j8
      clear j1 j2 j17
      have K1 := KA_14.out.step HM.out
      have x2 := K1.c 2 rfl
      have xz := K1.2.2
      clear K1
      rw [HLIT.out]
      go_simp
      exact hK.out _ _ (NQ.next (vs := vs) 10 (by omega) (fun h => by omega) (up_ne _ _ _ (by omega)) (up_ne _ _ _ (by omega)) j8.out (x := .int .i64 tag) (by rw [HLIT.out]; simp only [upv, e9, Nat.reduceBEq, cond_true, cond_false]) (by rw [HG.out]; exact j4.out) HM.out (by rw [HG.out]; exact fun _ _ _ h => h) (by rw [HG.out]; exact ⟨fun h => absurd h (by decide), fun h => absurd h (by decide), fun h => absurd h (by decide), fun h => absurd h (by decide), fun h => absurd h (by decide), fun h => absurd h (by decide), fun _ => E10.out.symm⟩))
    · intro bf ac wv hfb haf hJ K' hK
      obtain ⟨vs, rfl, j1, j2, j8, j17, hM, j4⟩ := hJ.open 11 (by omega) hfb
      replace hK := Lib.hid hK
      have HM := Lib.hid hM
      clear hM
      rw [HG.out] at j4
      clear haf
      replace j4 := Lib.hid (And.intro j1 (And.intro j2 (And.intro j17 j4)))
      replace j8 := Lib.hid j8
      clear j1 j2 j17
      rw [HLIT.out]
      go_simp
      exact hK.out _ _ (NQ.next (vs := vs) 11 (by omega) (fun h => by omega) (up_ne _ _ _ (by omega)) (up_ne _ _ _ (by omega)) j8.out (x := .pointer (some ⟨w.heap.size + 1, 0, none⟩)) (by rw [HLIT.out]; rfl) (by rw [HG.out]; exact j4.out) HM.out (by rw [HG.out]; exact fun _ _ _ h => h) (by rw [HG.out]; exact ⟨fun h => absurd h (by decide), fun h => absurd h (by decide), fun h => absurd h (by decide), fun h => absurd h (by decide), fun h => absurd h (by decide), fun h => absurd h (by decide), fun _ => E11.out.symm⟩))
    · intro bf ac wv hfb haf hJ K' hK
      obtain ⟨vs, rfl, j1, j2, j8, j17, hM, j4⟩ := hJ.open 12 (by omega) hfb
      replace hK := Lib.hid hK
      have HM := Lib.hid hM
      clear hM
      simp [Region.binds] at haf
      rw [HG.out] at j4
      have e11 : vs 11 = _ := ((j4 11 (by omega) (by simp [haf])).2.2.2.2.2.2 ⟨by decide, by decide, by decide, by decide, by decide, by decide⟩).trans E11.out
      clear haf
      replace j4 := Lib.hid (And.intro j1 (And.intro j2 (And.intro j17 j4)))
      replace j8 := Lib.hid j8
      clear j1 j2 j17
      have K1 := KV_15.out.step HM.out
      have x0 := K1.c 0 rfl
      have xz := K1.2.2
      clear K1
      rw [HLIT.out]
      go_simp
      exact hK.out _ _ (NQ.next (vs := vs) 12 (by omega) (fun h => by omega) (up_ne _ _ _ (by omega)) (up_ne _ _ _ (by omega)) j8.out (x := .int .i64 k) (by rw [HLIT.out]; simp only [upv, e11, Nat.reduceBEq, cond_true, cond_false]) (by rw [HG.out]; exact j4.out) HM.out (by rw [HG.out]; exact fun _ _ _ h => h) (by rw [HG.out]; exact ⟨fun h => absurd h (by decide), fun h => absurd h (by decide), fun h => absurd h (by decide), fun h => absurd h (by decide), fun h => absurd h (by decide), fun h => absurd h (by decide), fun _ => E12.out.symm⟩))
    · intro bf ac wv hfb haf hJ K' hK
      obtain ⟨vs, rfl, j1, j2, j8, j17, hM, j4⟩ := hJ.open 13 (by omega) hfb
      replace hK := Lib.hid hK
      have HM := Lib.hid hM
      clear hM
      rw [HG.out] at j4
      clear haf
      replace j4 := Lib.hid (And.intro j1 (And.intro j2 (And.intro j17 j4)))
      replace j8 := Lib.hid j8
      clear j1 j2 j17
      rw [HLIT.out]
      go_simp
      exact hK.out _ _ (NQ.next (vs := vs) 13 (by omega) (fun h => by omega) (up_ne _ _ _ (by omega)) (up_ne _ _ _ (by omega)) j8.out (x := .pointer (some ⟨w.heap.size + 1, 1, none⟩)) (by rw [HLIT.out]; rfl) (by rw [HG.out]; exact j4.out) HM.out (by rw [HG.out]; exact fun _ _ _ h => h) (by rw [HG.out]; exact ⟨fun h => absurd h (by decide), fun h => absurd h (by decide), fun h => absurd h (by decide), fun h => absurd h (by decide), fun h => absurd h (by decide), fun h => absurd h (by decide), fun _ => E13.out.symm⟩))
    · intro bf ac wv hfb haf hJ K' hK
      obtain ⟨vs, rfl, j1, j2, j8, j17, hM, j4⟩ := hJ.open 14 (by omega) hfb
      replace hK := Lib.hid hK
      have HM := Lib.hid hM
      clear hM
      simp [Region.binds] at haf
      rw [HG.out] at j4
      have e13 : vs 13 = _ := ((j4 13 (by omega) (by simp [haf])).2.2.2.2.2.2 ⟨by decide, by decide, by decide, by decide, by decide, by decide⟩).trans E13.out
      clear haf
      replace j4 := Lib.hid (And.intro j1 (And.intro j2 (And.intro j17 j4)))
      replace j8 := Lib.hid j8
      clear j1 j2 j17
      have K1 := KV_15.out.step HM.out
      have x1 := K1.c 1 rfl
      have xz := K1.2.2
      clear K1
      rw [HLIT.out]
      go_simp
      exact hK.out _ _ (NQ.next (vs := vs) 14 (by omega) (fun h => by omega) (up_ne _ _ _ (by omega)) (up_ne _ _ _ (by omega)) j8.out (x := .int .i64 v) (by rw [HLIT.out]; simp only [upv, e13, Nat.reduceBEq, cond_true, cond_false]) (by rw [HG.out]; exact j4.out) HM.out (by rw [HG.out]; exact fun _ _ _ h => h) (by rw [HG.out]; exact ⟨fun h => absurd h (by decide), fun h => absurd h (by decide), fun h => absurd h (by decide), fun h => absurd h (by decide), fun h => absurd h (by decide), fun h => absurd h (by decide), fun _ => E14.out.symm⟩))
    · intro bf ac wv hfb haf hJ K' hK
      obtain ⟨vs, rfl, j1, j2, j8, j17, hM, j4⟩ := hJ.open 15 (by omega) hfb
      replace hK := Lib.hid hK
      have HM := Lib.hid hM
      clear hM
      simp [Region.binds] at haf
      rw [HG.out] at j4
      have e12 : vs 12 = _ := ((j4 12 (by omega) (by simp [haf])).2.2.2.2.2.2 ⟨by decide, by decide, by decide, by decide, by decide, by decide⟩).trans E12.out
      have e14 : vs 14 = _ := ((j4 14 (by omega) (by simp [haf])).2.2.2.2.2.2 ⟨by decide, by decide, by decide, by decide, by decide, by decide⟩).trans E14.out
      clear haf
      replace j4 := Lib.hid (And.intro j1 (And.intro j2 (And.intro j17 j4)))
      replace j8 := Lib.hid j8
      clear j1 j2 j17
      rw [HLIT.out]
      go_simp
      exact hK.out _ _ (NQ.next (vs := vs) 15 (by omega) (fun h => by omega) (up_ne _ _ _ (by omega)) (up_ne _ _ _ (by omega)) j8.out (x := .slice (some ⟨wv.heap.size, 0, none⟩) 2 2) (by rw [HLIT.out]; simp only [upv, e12, e14, Nat.reduceBEq, cond_true, cond_false]) (by rw [HG.out]; exact j4.out) (keep2 (al _ _) HM.out) (by rw [HG.out]; exact fun k _ _ h => Gr.step (al _ _) k _ h) (by rw [HG.out]; exact ⟨fun h => absurd h (by decide), fun h => absurd h (by decide), fun h => absurd h (by decide), fun h => absurd h (by decide), fun _ => ⟨wv.heap.size, rfl, BoxN.new wv #[.int .i64 k, .int .i64 v] 3⟩, fun h => absurd h (by decide), fun h => absurd rfl h.2.2.2.2.1⟩))
    · intro bf ac wv hfb haf hJ K' hK
      obtain ⟨vs, rfl, j1, j2, j8, j17, hM, j4⟩ := hJ.open 16 (by omega) hfb
      replace hK := Lib.hid hK
      have HM := Lib.hid hM
      clear hM
      simp [Region.binds] at haf
      rw [HG.out] at j4
      have e10 : vs 10 = _ := ((j4 10 (by omega) (by simp [haf])).2.2.2.2.2.2 ⟨by decide, by decide, by decide, by decide, by decide, by decide⟩).trans E10.out
      have e15 := (j4 15 (by omega) (by simp [haf])).2.2.2.2.1 rfl
      clear haf
      replace j4 := Lib.hid (And.intro j1 (And.intro j2 (And.intro j17 j4)))
      replace j8 := Lib.hid j8
      clear j1 j2 j17
      obtain ⟨g15, e15, hb15⟩ := e15
      rw [HLIT.out]
      go_simp
      go_at_call 34
      refine (rtagN_any tag k v _ _ (ints_box hb15)).mono ?_
      rintro e w4 ⟨rfl, b4⟩
      exact hK.out _ _ (NQ.next (vs := vs) 16 (by omega) (fun h => by omega) (up_ne _ _ _ (by omega)) (up_ne _ _ _ (by omega)) j8.out (x := .int .i64 (tgN tag ⟨k, v⟩)) (by rw [HLIT.out]; simp only [upv, e10, e15, Nat.reduceBEq, cond_true, cond_false]) (by rw [HG.out]; exact j4.out) (keep2 b4 HM.out) (by rw [HG.out]; exact fun k _ _ h => Gr.step b4 k _ h) (by rw [HG.out]; exact ⟨fun h => absurd h (by decide), fun h => absurd h (by decide), fun h => absurd h (by decide), fun h => absurd h (by decide), fun h => absurd h (by decide), fun h => absurd h (by decide), fun _ => E16.out.symm⟩))
    · intro bf ac wv hfb haf hJ K' hK
      obtain ⟨vs, rfl, j1, j2, j8, j17, hM, j4⟩ := hJ.open 17 (by omega) hfb
      replace hK := Lib.hid hK
      have HM := Lib.hid hM
      clear hM
      simp [Region.binds] at haf
      rw [HG.out] at j4
      have e1 : vs 1 = _ := ((j4 1 (by omega) (by simp [haf])).2.2.2.2.2.2 ⟨by decide, by decide, by decide, by decide, by decide, by decide⟩).trans E1.out
      have e8 := (j4 8 (by omega) (by simp [haf])).2.2.2.1 rfl
      have e16 : vs 16 = _ := ((j4 16 (by omega) (by simp [haf])).2.2.2.2.2.2 ⟨by decide, by decide, by decide, by decide, by decide, by decide⟩).trans E16.out
      have h8t : bf 8 = true := by simp [haf]
      clear haf
      replace j4 := Lib.hid (And.intro j1 (And.intro j2 (And.intro j17 j4)))
      replace j8 := Lib.hid j8
      clear j1 j2 j17
      have R7 := Lib.hid e8
      obtain ⟨a7, c7, hx7⟩ := row_slice e8
      rw [hx7] at R7
      clear e8
      rw [HLIT.out]
      go_simp
      exact hK.out _ _ (NQ.next (vs := vs) 17 (by omega) (fun _ => h8t) (up_ne _ _ _ (by omega)) (up_ne _ _ _ (by omega)) j8.out (x := .agg #[.int .i64 id, .slice a7 (l.length + 1) c7, .int .i64 (tgN tag ⟨k, v⟩)]) (by rw [HLIT.out]; simp only [upv, e1, e16, hx7, Nat.reduceBEq, cond_true, cond_false]) (by rw [HG.out]; exact j4.out) HM.out (by rw [HG.out]; exact fun _ _ _ h => h) (by rw [HG.out]; exact ⟨fun h => absurd h (by decide), fun h => absurd h (by decide), fun h => absurd h (by decide), fun h => absurd h (by decide), fun h => absurd h (by decide), fun _ => ⟨id, _, _, E1.out, E16.out, rfl, R7.out⟩, fun h => absurd rfl h.2.2.2.2.2⟩))
    · intro bf ac wv hfb haf hJ K' hK
      obtain ⟨vs, rfl, j1, hM, j4⟩ := hJ.open18 hfb
      replace hK := Lib.hid hK
      have HM := Lib.hid hM
      simp [Region.binds] at haf
      clear hM
      have HA := Lib.hid (show ∀ i, i < 18 → bf i = true from fun i hi => by
        obtain rfl | rfl | rfl | rfl | rfl | rfl | rfl | rfl | rfl | rfl | rfl | rfl | rfl | rfl | rfl | rfl | rfl | rfl : i = 0 ∨ i = 1 ∨ i = 2 ∨ i = 3 ∨ i = 4 ∨ i = 5 ∨ i = 6 ∨ i = 7 ∨ i = 8 ∨ i = 9 ∨ i = 10 ∨ i = 11 ∨ i = 12 ∨ i = 13 ∨ i = 14 ∨ i = 15 ∨ i = 16 ∨ i = 17 := by omega
        all_goals simp [haf])
      clear haf hfb
      rw [HG.out] at j4
      obtain ⟨id2, u, t2, q1, q2, e17, r17⟩ := (j4 17 (by omega) (HA.out 17 (by omega))).2.2.2.2.2.1 rfl
      rw [E1.out] at q1
      rw [E16.out] at q2
      cases q1
      cases q2
      obtain ⟨a7, c7, rfl⟩ := row_slice r17
      replace j4 := Lib.hid j4
      replace j1 := Lib.hid j1
      have R7 := Lib.hid r17
      clear r17
      have KR1 := Lib.hid (KR_16.out.step HM.out)
      have x0 := KR1.out.c 0 rfl
      have y0 := KR1.out.f 0 (by simp)
      have x1 := KR1.out.c 1 rfl
      have y1 := KR1.out.f 1 (by simp)
      have x2 := KR1.out.c 2 rfl
      have y2 := KR1.out.f 2 (by simp)
      have xz := KR1.out.2.2
      rw [HLIT.out]
      go_simp
      exact hK.out _ _ (NQ.fin (vs := vs) (by rw [HLIT.out]; simp only [e17]) j1.out HA.out ⟨.slice a7 (l.length + 1) c7, Cs.set (Cs.set (Cs.set KR1.out 0 (by simp) _ rfl) 1 (by simp) _ rfl) 2 (by simp) _ rfl, cvs_of_row (by simp) (by have := hn.out; unfold maxLen; simp; omega) (row_other (row_other (row_other R7.out HZ.out) HZ.out) HZ.out), (by repeat (first | with_reducible exact keep2 HM.out HB17.out | with_reducible exact Below.refl _ _ | ((with_reducible refine Below.setCell ?_ ?_ _); rotate_left; focus (first | (simp; done) | (simp; omega) | omega)) | ((with_reducible refine Below.alloc ?_ ?_ _); rotate_left; focus (first | (simp; done) | (simp; omega) | omega)) | with_reducible refine Below.trans ?_ (below_drewN' _ _ _) | with_reducible refine Below.trans ?_ (below_drew _ _)))⟩)
    · intro bf ac wv hfb haf hJ K' hK
      simp [Region.binds] at haf
      obtain ⟨vs, rfl, -, hA, hF⟩ := hJ.open19 (by simp [haf])
      replace hK := Lib.hid hK
      replace hF := Lib.hid hF
      have h18 : bf 18 = true := by simp [haf]
      clear haf
      rw [HLIT.out]
      go_simp
      exact hK.out _ _ (NQ.last (vs := vs) (by rw [HLIT.out]; rfl) h18 hA hF.out)
  · intro bf ac wv hall hJ
    obtain ⟨vs, rfl, e19, -, u, hR, hC, hB⟩ := hJ.open19 (hall 18 (by decide))
    replace e19 := e19 (hall 19 (by decide))
    have hC2 := hC
    obtain ⟨a7, cap7, hs7, -⟩ := hC2
    subst hs7
    have HC9 := Lib.hid hC
    have HB9 := Lib.hid hB
    clear hC hB hall
    have x0 := hR.c 0 rfl
    have y0 := hR.f 0 (by simp)
    have x1 := hR.c 1 rfl
    have y1 := hR.f 1 (by simp)
    have x2 := hR.c 2 rfl
    have y2 := hR.f 2 (by simp)
    have xz := hR.2.2
    clear hR
    rw [HLIT.out]
    dsimp only
    rw [e19]
    go_wp2
    exact bodyPost_ret (v := .tuple #[.agg #[.int .i64 id, _, .int .i64 (tgN tag ⟨k, v⟩)], .int .i64 0]) (by simp [results, Try.results11, go_sem, x0, x1, x2]) rfl ⟨_, rfl, HC9.out, HB9.out⟩
theorem rnarrow_any (id tag k v : Int) (sl : Value) (l : List Cv) (w : World) (h : CvsAt w sl l) : Calls Try.prog 11 #[.agg #[.int .i64 id, sl, .int .i64 tag], .agg #[.int .i64 k, .int .i64 v]] w fun e w' =>
    ∃ vr, e = .returned (.tuple #[vr, .int .i64 (nrE id tag l k v)]) ∧ Below w.heap.size w w' ∧ (nrE id tag l k v = 0 → ∃ u, vr = .agg #[.int .i64 id, u, .int .i64 (tgN tag ⟨k, v⟩)] ∧ CvsAt w' u (l ++ [⟨k, v⟩])) ∧ (nrE id tag l k v ≠ 0 → vr = zCap) := by
  cases h1 : capB id tag l
  · have : nrE id tag l k v = 1 := by unfold nrE; simp [h1]
    rw [this]
    exact (rnarrow_bad1 id tag k v sl l w h h1).mono fun e w' q => ⟨zCap, q.1, q.2, fun h => by omega, fun _ => rfl⟩
  · cases h2 : cvB k v
    · have : nrE id tag l k v = 1 := by unfold nrE; simp [h2]
      rw [this]
      exact (rnarrow_bad2 id tag k v sl l w h h1 h2).mono fun e w' q => ⟨zCap, q.1, q.2, fun h => by omega, fun _ => rfl⟩
    · by_cases h3 : l.length = 12
      · have : nrE id tag l k v = 30 := by unfold nrE; simp [h1, h2, h3]
        rw [this]
        exact (rnarrow_full id tag k v sl l w h h1 h2 h3).mono fun e w' q => ⟨zCap, q.1, q.2, fun h => by omega, fun _ => rfl⟩
      · have : nrE id tag l k v = 0 := by unfold nrE; simp [h1, h2, h3]
        rw [this]
        refine (rnarrow_ok id tag k v sl l w h h1 h2 (by have := cap_len h1; omega)).mono fun e w' q => ?_
        obtain ⟨u, q1, q2, q3⟩ := q
        exact ⟨_, q1, q3, fun _ => ⟨u, rfl, q2⟩, fun h => absurd rfl h⟩
end Go.Proofs.Ytdifgdnndmikaaa
