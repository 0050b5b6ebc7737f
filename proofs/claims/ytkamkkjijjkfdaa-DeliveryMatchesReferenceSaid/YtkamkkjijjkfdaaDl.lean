/- Delivery: 'Send'. -/
import Derived.Test.YtkamkkjijjkfdaaDk
import Derived.Test.YtkamkkjijjkfdaaPh
import Derived.BigQuiet
namespace Go.Proofs.Ytkamkkjijjkfdaa
open Go.RowKit

/-- What 'Send' returns. -/
def SeP (w : World) (NX : Int) (LL : List Od) (er : Int) (e : Ending) (w' : World) : Prop :=
  ∃ (uc : Nat) (ua : Option Addr), e = .returned (.tuple #[.agg #[.int .i64 NX, .slice ua LL.length uc], .int .i64 er]) ∧ OdsAt w' (.slice ua LL.length uc) LL ∧ LL.length ≤ uc ∧ Below w.heap.size w w'
/-- A block lies whole. -/
def BoxN (W : World) (B : Nat) (vs : Array Value) (t : TypeId) : Prop := W.heap[B]? = some (.cells vs t (0, 0))
theorem BoxN.lt {W : World} {B : Nat} {t : TypeId} {vs : Array Value} (h : BoxN W B vs t) : B < W.heap.size := (Array.getElem?_eq_some_iff.1 h).1
theorem BoxN.new (W : World) (vs : Array Value) (t : TypeId) : BoxN (W.alloc (.cells vs t)) W.heap.size vs t := heap_alloc_new W _
theorem BoxN.step {W W' : World} {B : Nat} {t : TypeId} {vs : Array Value} (h : BoxN W B vs t) (hb : Below W.heap.size W W') : BoxN W' B vs t := (hb.block B h.lt).trans h
/-- What comes up; c2: the append has come up. -/
def Gr (val : List Value) (NX : Int) (l : List Od) (o : Od) (n0 : Nat) (c2 : Bool) (i : Nat) (v : Value) (w : World) : Prop :=
  (i = 5 → c2 = false → w.ownsRow n0 32 4 v l.length (ocs l)) ∧
  (i = 7 → c2 = false → ∃ g, v = .slice (some ⟨g, 0, none⟩) 1 1 ∧ BoxN w g #[.int .i64 o.a, .int .i64 o.b, .int .i64 o.c, .int .i64 o.d] 32) ∧
  (i = 8 → w.ownsRow n0 32 4 v (l.length + 1) (ocs (l ++ [o]))) ∧
  (i = 9 → ∃ u, v = .agg #[.int .i64 NX, u] ∧ w.ownsRow n0 32 4 u (l.length + 1) (ocs (l ++ [o]))) ∧
  ((i ≠ 5 ∧ i ≠ 7 ∧ i ≠ 8 ∧ i ≠ 9) → v = val.getD i undef)
theorem Gr.step {val : List Value} {NX : Int} {l : List Od} {o : Od} {n0 : Nat} {c2 : Bool} {w w1 : World} (hb : Below w.heap.size w w1) : ∀ i v, Gr val NX l o n0 c2 i v w → Gr val NX l o n0 c2 i v w1 := fun _ _ h =>
  ⟨fun e d => row_step (h.1 e d) hb, fun e d => (h.2.1 e d).imp fun _ q => ⟨q.1, q.2.step hb⟩, fun e => row_step (h.2.2.1 e) hb, fun e => (h.2.2.2.1 e).imp fun _ q => ⟨q.1, row_step q.2 hb⟩, h.2.2.2.2⟩
/-- The region's invariant: until the result is stored, and behind it. -/
def SQ (lit : (Nat → Value) → Act) (G : Bool → Nat → Value → World → Prop) (B Fin : World → Prop) (bf : Nat → Bool) (ac : Act) (wv : World) : Prop :=
  ∃ vs, ac = lit vs ∧ (bf 11 = true → vs 11 = .int .i64 0) ∧
    ((bf 10 = false ∧ (bf 9 = true → bf 8 = true) ∧ B wv ∧ ∀ i, i < 10 → bf i = true → G (bf 8) i (vs i) wv) ∨ (bf 10 = true ∧ (∀ i, i < 10 → bf i = true) ∧ Fin wv))
variable {lit : (Nat → Value) → Act} {G : Bool → Nat → Value → World → Prop} {B Fin : World → Prop} {bf : Nat → Bool} {ac : Act} {wv : World}
theorem SQ.open (h : SQ lit G B Fin bf ac wv) (i : Nat) (hi : i < 10) (hf : bf i = false) :
    ∃ vs, ac = lit vs ∧ (bf 11 = true → vs 11 = .int .i64 0) ∧ bf 10 = false ∧ (bf 9 = true → bf 8 = true) ∧ B wv ∧ ∀ i, i < 10 → bf i = true → G (bf 8) i (vs i) wv := by
  obtain ⟨vs, h1, h2, ⟨h3, h4, h6, h7⟩ | ⟨-, h4, -⟩⟩ := h
  · exact ⟨vs, h1, h2, h3, h4, h6, h7⟩
  · rw [h4 i hi] at hf; cases hf
theorem SQ.next {vs : Nat → Value} (i : Nat) (hi : i < 10) (h17 : i = 9 → bf 8 = true) {c2 : Bool} (e2 : up bf i 8 = c2) {x : Value} {w' : World} {ac' : Act} (hac : ac' = lit (upv vs i x))
    (k : (bf 11 = true → vs 11 = .int .i64 0) ∧ bf 10 = false ∧ (bf 9 = true → bf 8 = true) ∧ ∀ i, i < 10 → bf i = true → G (bf 8) i (vs i) wv)
    (hb : B w') (hs : ∀ k, k ≠ i → bf k = true → G (bf 8) k (vs k) wv → G c2 k (vs k) w') (hx : G c2 i x w') : SQ lit G B Fin (up bf i) ac' w' := by
  obtain ⟨k1, k2, k3, k4⟩ := k
  refine ⟨upv vs i x, hac, fun h => ?_, .inl ⟨?_, fun h => ?_, hb, fun j hj hu => ?_⟩⟩
  · rw [up_ne _ _ _ (by omega)] at h; rw [upv_ne _ _ _ _ (by omega)]; exact k1 h
  · rw [up_ne _ _ _ (by omega)]; exact k2
  · have h3 : bf 8 = true := by
      by_cases e : 9 = i
      · exact h17 e.symm
      · rw [up_ne _ _ _ e] at h; exact k3 h
    unfold up; rw [h3]; simp
  · rw [e2]
    by_cases e : j = i
    · subst e; rw [upv_same]; exact hx
    · rw [up_ne _ _ _ e] at hu; rw [upv_ne _ _ _ _ e]; exact hs _ e hu (k4 j hj hu)
theorem SQ.open10 (h : SQ lit G B Fin bf ac wv) (hf : bf 10 = false) :
    ∃ vs, ac = lit vs ∧ (bf 11 = true → vs 11 = .int .i64 0) ∧ B wv ∧ ∀ i, i < 10 → bf i = true → G (bf 8) i (vs i) wv := by
  obtain ⟨vs, h1, h2, ⟨h3, -, h4, h5⟩ | ⟨h3, -⟩⟩ := h
  · exact ⟨vs, h1, h2, h4, h5⟩
  · rw [h3] at hf; cases hf
theorem SQ.fin {vs : Nat → Value} {w' : World} {ac' : Act} (hac : ac' = lit vs) (k : bf 11 = true → vs 11 = .int .i64 0) (ha : ∀ i, i < 10 → bf i = true) (hF : Fin w') : SQ lit G B Fin (up bf 10) ac' w' :=
  ⟨vs, hac, fun h => k (by rwa [up_ne _ _ _ (by omega)] at h), .inr ⟨up_same _ _, fun i hi => by rw [up_ne _ _ _ (by omega)]; exact ha i hi, hF⟩⟩
theorem SQ.open11 (h : SQ lit G B Fin bf ac wv) (hf : bf 10 = true) : ∃ vs, ac = lit vs ∧ (bf 11 = true → vs 11 = .int .i64 0) ∧ (∀ i, i < 10 → bf i = true) ∧ Fin wv := by
  obtain ⟨vs, h1, h2, ⟨h3, -⟩ | ⟨h3, h4, h5⟩⟩ := h
  · rw [h3] at hf; cases hf
  · exact ⟨vs, h1, h2, h4, h5⟩
theorem SQ.last {vs : Nat → Value} {ac' : Act} (hac : ac' = lit (upv vs 11 (.int .i64 0))) (h3 : bf 10 = true) (ha : ∀ i, i < 10 → bf i = true) (hF : Fin wv) : SQ lit G B Fin (up bf 11) ac' wv :=
  ⟨_, hac, fun _ => upv_same _ _ _, .inr ⟨by rw [up_ne _ _ _ (by omega)]; exact h3, fun i hi => by rw [up_ne _ _ _ (by omega)]; exact ha i hi, hF⟩⟩
set_option maxRecDepth 100000 in
set_option maxHeartbeats 8000000 in
theorem send_no (nx b c d : Int) (sa : Option Addr) (sc : Nat) (L : List Od) (hr : ¬ SnP nx L) (w : World) (h : OdsAt w (.slice sa L.length sc) L) (h9 : L.length ≤ 100000) :
    Calls Try.prog 11 #[.agg #[.int .i64 nx, .slice sa L.length sc], .int .i64 b, .int .i64 c, .int .i64 d] w (SeP w 0 [] 1) := by
  have HC0 := Lib.hid ((Cs.new w w.heap.size #[.int .i64 nx, .slice sa L.length sc] 24 rfl).step (al2 (w := w.alloc (.cells #[.int .i64 nx, .slice sa L.length sc] 24)) (o1 := .cells #[.int .i64 0, .slice none 0 0] 24) (o2 := .cells #[.int .i64 0, .int .i64 b, .int .i64 c, .int .i64 d] 32)))
  have HR0 := Lib.hid ((Cs.new (w.alloc (.cells #[.int .i64 nx, .slice sa L.length sc] 24)) (w.heap.size + 1) #[.int .i64 0, .slice none 0 0] 24 (by simp)).alloc (.cells #[.int .i64 0, .int .i64 b, .int .i64 c, .int .i64 d] 32))
  have HO0 := Lib.hid (Cs.new ((w.alloc (.cells #[.int .i64 nx, .slice sa L.length sc] 24)).alloc (.cells #[.int .i64 0, .slice none 0 0] 24)) (w.heap.size + 1 + 1) #[.int .i64 0, .int .i64 b, .int .i64 c, .int .i64 d] 32 (by simp))
  have HB0 := Lib.hid (al3 (w := w) (o1 := .cells #[.int .i64 nx, .slice sa L.length sc] 24) (o2 := .cells #[.int .i64 0, .slice none 0 0] 24) (o3 := .cells #[.int .i64 0, .int .i64 b, .int .i64 c, .int .i64 d] 32))
  have HL0 := Lib.hid (h.step HB0.out)
  have H0 := Lib.hid h
  have H9 := Lib.hid h9
  have HRR := Lib.hid hr
  have hm : L.length ≤ maxLen := by unfold maxLen; omega
  clear h hr h9
  have c0 := HC0.out.c 0 rfl
  have c1 := HC0.out.c 1 rfl
  have cz := HC0.out.2.2
  have r0 := HR0.out.c 0 rfl
  have r1 := HR0.out.c 1 rfl
  have rf0 := HR0.out.f 0 (by simp)
  have rf1 := HR0.out.f 1 (by simp)
  have rz := HR0.out.2.2
  have o0 := HO0.out.c 0 rfl
  have o1 := HO0.out.c 1 rfl
  have o2 := HO0.out.c 2 rfl
  have o3 := HO0.out.c 3 rfl
  have of0 := HO0.out.f 0 (by simp)
  have oz := HO0.out.2.2
  go_enter Try.func11, Try.ntmps11
  go_wp2_with fail
  refine (isSender_any nx sa sc L false (by have h := HRR.out; simpa using h) _ HL0.out).mono ?_
  rintro e w1 ⟨rfl, b1⟩
  have HC1 := Lib.hid (HC0.out.step b1)
  have HR1 := Lib.hid (HR0.out.step b1)
  have HO1 := Lib.hid (HO0.out.step b1)
  have HB1 := Lib.hid (keep2 b1 HB0.out)
  have HL1 := Lib.hid (HL0.out.step b1)
  clear b1 HC0 HR0 HO0 HB0 HL0 c0 c1 cz r0 r1 rf0 rf1 rz o0 o1 o2 o3 of0 oz
  have c0 := HC1.out.c 0 rfl
  have c1 := HC1.out.c 1 rfl
  have cz := HC1.out.2.2
  have r0 := HR1.out.c 0 rfl
  have r1 := HR1.out.c 1 rfl
  have rf0 := HR1.out.f 0 (by simp)
  have rf1 := HR1.out.f 1 (by simp)
  have rz := HR1.out.2.2
  have o0 := HO1.out.c 0 rfl
  have o1 := HO1.out.c 1 rfl
  have o2 := HO1.out.c 2 rfl
  have o3 := HO1.out.c 3 rfl
  have of0 := HO1.out.f 0 (by simp)
  have oz := HO1.out.2.2
  go_wp2_with fail
  have HLE := Lib.hid (show w.heap.size ≤ w.heap.size + 1 by omega)
  refine (fun (h : ∀ V : World, Cs V (w.heap.size + 1) #[.int .i64 0, .slice none 0 0] → Below w.heap.size w V → bodyPost Try.prog Try.f11 _ Exit.ret _ V) => h _ (Cs.set (Cs.set HR1.out 0 (by simp) (.int .i64 0) (vs' := #[.int .i64 0, .slice none 0 0]) rfl) 1 (by simp) (.slice none 0 0) (vs' := #[.int .i64 0, .slice none 0 0]) rfl) ((HB1.out.setCell (p := ⟨w.heap.size + 1, 0, none⟩) HLE.out _).setCell (p := ⟨w.heap.size + 1, 1, none⟩) HLE.out _)) ?_
  intro V hC hB
  have k0 : V.cell? ⟨w.heap.size + 1, 0, none⟩ = some (.int .i64 0) := hC.c 0 rfl
  have k1 : V.cell? ⟨w.heap.size + 1, 1, none⟩ = some (.slice none 0 0) := hC.c 1 rfl
  exact bodyPost_ret (v := .tuple #[.agg #[.int .i64 0, .slice none 0 0], .int .i64 1]) (by simp [results, Try.results11, go_sem, k0, k1]) rfl ⟨0, none, rfl, ods_nil _, by simp, hB⟩
set_option maxRecDepth 100000 in
set_option maxHeartbeats 8000000 in
theorem send_bad (nx b c d : Int) (sa : Option Addr) (sc : Nat) (L : List Od) (hr : SnP nx L) (ho : orB 0 b c d = false) (w : World) (h : OdsAt w (.slice sa L.length sc) L) (h9 : L.length ≤ 100000) :
    Calls Try.prog 11 #[.agg #[.int .i64 nx, .slice sa L.length sc], .int .i64 b, .int .i64 c, .int .i64 d] w (SeP w 0 [] 1) := by
  have HC0 := Lib.hid ((Cs.new w w.heap.size #[.int .i64 nx, .slice sa L.length sc] 24 rfl).step (al2 (w := w.alloc (.cells #[.int .i64 nx, .slice sa L.length sc] 24)) (o1 := .cells #[.int .i64 0, .slice none 0 0] 24) (o2 := .cells #[.int .i64 0, .int .i64 b, .int .i64 c, .int .i64 d] 32)))
  have HR0 := Lib.hid ((Cs.new (w.alloc (.cells #[.int .i64 nx, .slice sa L.length sc] 24)) (w.heap.size + 1) #[.int .i64 0, .slice none 0 0] 24 (by simp)).alloc (.cells #[.int .i64 0, .int .i64 b, .int .i64 c, .int .i64 d] 32))
  have HO0 := Lib.hid (Cs.new ((w.alloc (.cells #[.int .i64 nx, .slice sa L.length sc] 24)).alloc (.cells #[.int .i64 0, .slice none 0 0] 24)) (w.heap.size + 1 + 1) #[.int .i64 0, .int .i64 b, .int .i64 c, .int .i64 d] 32 (by simp))
  have HB0 := Lib.hid (al3 (w := w) (o1 := .cells #[.int .i64 nx, .slice sa L.length sc] 24) (o2 := .cells #[.int .i64 0, .slice none 0 0] 24) (o3 := .cells #[.int .i64 0, .int .i64 b, .int .i64 c, .int .i64 d] 32))
  have HL0 := Lib.hid (h.step HB0.out)
  have H0 := Lib.hid h
  have H9 := Lib.hid h9
  have HRR := Lib.hid hr
  have hm : L.length ≤ maxLen := by unfold maxLen; omega
  clear h hr h9
  have c0 := HC0.out.c 0 rfl
  have c1 := HC0.out.c 1 rfl
  have cz := HC0.out.2.2
  have r0 := HR0.out.c 0 rfl
  have r1 := HR0.out.c 1 rfl
  have rf0 := HR0.out.f 0 (by simp)
  have rf1 := HR0.out.f 1 (by simp)
  have rz := HR0.out.2.2
  have o0 := HO0.out.c 0 rfl
  have o1 := HO0.out.c 1 rfl
  have o2 := HO0.out.c 2 rfl
  have o3 := HO0.out.c 3 rfl
  have of0 := HO0.out.f 0 (by simp)
  have oz := HO0.out.2.2
  have HQ := Lib.hid ho
  clear ho
  go_enter Try.func11, Try.ntmps11
  go_wp2_with fail
  refine (isSender_any nx sa sc L true (by have h := HRR.out; simpa using h) _ HL0.out).mono ?_
  rintro e w1 ⟨rfl, b1⟩
  have HC1 := Lib.hid (HC0.out.step b1)
  have HR1 := Lib.hid (HR0.out.step b1)
  have HO1 := Lib.hid (HO0.out.step b1)
  have HB1 := Lib.hid (keep2 b1 HB0.out)
  have HL1 := Lib.hid (HL0.out.step b1)
  clear b1 HC0 HR0 HO0 HB0 HL0 c0 c1 cz r0 r1 rf0 rf1 rz o0 o1 o2 o3 of0 oz
  have c0 := HC1.out.c 0 rfl
  have c1 := HC1.out.c 1 rfl
  have cz := HC1.out.2.2
  have r0 := HR1.out.c 0 rfl
  have r1 := HR1.out.c 1 rfl
  have rf0 := HR1.out.f 0 (by simp)
  have rf1 := HR1.out.f 1 (by simp)
  have rz := HR1.out.2.2
  have o0 := HO1.out.c 0 rfl
  have o1 := HO1.out.c 1 rfl
  have o2 := HO1.out.c 2 rfl
  have o3 := HO1.out.c 3 rfl
  have of0 := HO1.out.f 0 (by simp)
  have oz := HO1.out.2.2
  go_wp2_with fail
  refine (isOrder_any 0 b c d _).mono ?_
  rintro e w2 ⟨rfl, b2⟩
  have HC2 := Lib.hid (HC1.out.step b2)
  have HR2 := Lib.hid (HR1.out.step b2)
  have HO2 := Lib.hid (HO1.out.step b2)
  have HB2 := Lib.hid (keep2 b2 HB1.out)
  have HL2 := Lib.hid (HL1.out.step b2)
  clear b2 HC1 HR1 HO1 HB1 HL1 c0 c1 cz r0 r1 rf0 rf1 rz o0 o1 o2 o3 of0 oz
  have c0 := HC2.out.c 0 rfl
  have c1 := HC2.out.c 1 rfl
  have cz := HC2.out.2.2
  have r0 := HR2.out.c 0 rfl
  have r1 := HR2.out.c 1 rfl
  have rf0 := HR2.out.f 0 (by simp)
  have rf1 := HR2.out.f 1 (by simp)
  have rz := HR2.out.2.2
  have o0 := HO2.out.c 0 rfl
  have o1 := HO2.out.c 1 rfl
  have o2 := HO2.out.c 2 rfl
  have o3 := HO2.out.c 3 rfl
  have of0 := HO2.out.f 0 (by simp)
  have oz := HO2.out.2.2
  rw [show (inr 0 0 1000000 && (inr b 0 1000000000 && (inr c 0 1199 && inr d 0 15))) = false from HQ.out]
  go_wp2_with fail
  have HLE := Lib.hid (show w.heap.size ≤ w.heap.size + 1 by omega)
  refine (fun (h : ∀ V : World, Cs V (w.heap.size + 1) #[.int .i64 0, .slice none 0 0] → Below w.heap.size w V → bodyPost Try.prog Try.f11 _ Exit.ret _ V) => h _ (Cs.set (Cs.set HR2.out 0 (by simp) (.int .i64 0) (vs' := #[.int .i64 0, .slice none 0 0]) rfl) 1 (by simp) (.slice none 0 0) (vs' := #[.int .i64 0, .slice none 0 0]) rfl) ((HB2.out.setCell (p := ⟨w.heap.size + 1, 0, none⟩) HLE.out _).setCell (p := ⟨w.heap.size + 1, 1, none⟩) HLE.out _)) ?_
  intro V hC hB
  have k0 : V.cell? ⟨w.heap.size + 1, 0, none⟩ = some (.int .i64 0) := hC.c 0 rfl
  have k1 : V.cell? ⟨w.heap.size + 1, 1, none⟩ = some (.slice none 0 0) := hC.c 1 rfl
  exact bodyPost_ret (v := .tuple #[.agg #[.int .i64 0, .slice none 0 0], .int .i64 1]) (by simp [results, Try.results11, go_sem, k0, k1]) rfl ⟨0, none, rfl, ods_nil _, by simp, hB⟩
set_option maxRecDepth 100000 in
set_option maxHeartbeats 8000000 in
theorem send_full (nx b c d : Int) (sa : Option Addr) (sc : Nat) (L : List Od) (hr : SnP nx L) (ho : orB 0 b c d = true) (hn : 1000000 < nx) (w : World) (h : OdsAt w (.slice sa L.length sc) L) (h9 : L.length ≤ 100000) :
    Calls Try.prog 11 #[.agg #[.int .i64 nx, .slice sa L.length sc], .int .i64 b, .int .i64 c, .int .i64 d] w (SeP w 0 [] 2) := by
  have HC0 := Lib.hid ((Cs.new w w.heap.size #[.int .i64 nx, .slice sa L.length sc] 24 rfl).step (al2 (w := w.alloc (.cells #[.int .i64 nx, .slice sa L.length sc] 24)) (o1 := .cells #[.int .i64 0, .slice none 0 0] 24) (o2 := .cells #[.int .i64 0, .int .i64 b, .int .i64 c, .int .i64 d] 32)))
  have HR0 := Lib.hid ((Cs.new (w.alloc (.cells #[.int .i64 nx, .slice sa L.length sc] 24)) (w.heap.size + 1) #[.int .i64 0, .slice none 0 0] 24 (by simp)).alloc (.cells #[.int .i64 0, .int .i64 b, .int .i64 c, .int .i64 d] 32))
  have HO0 := Lib.hid (Cs.new ((w.alloc (.cells #[.int .i64 nx, .slice sa L.length sc] 24)).alloc (.cells #[.int .i64 0, .slice none 0 0] 24)) (w.heap.size + 1 + 1) #[.int .i64 0, .int .i64 b, .int .i64 c, .int .i64 d] 32 (by simp))
  have HB0 := Lib.hid (al3 (w := w) (o1 := .cells #[.int .i64 nx, .slice sa L.length sc] 24) (o2 := .cells #[.int .i64 0, .slice none 0 0] 24) (o3 := .cells #[.int .i64 0, .int .i64 b, .int .i64 c, .int .i64 d] 32))
  have HL0 := Lib.hid (h.step HB0.out)
  have H0 := Lib.hid h
  have H9 := Lib.hid h9
  have HRR := Lib.hid hr
  have hm : L.length ≤ maxLen := by unfold maxLen; omega
  clear h hr h9
  have c0 := HC0.out.c 0 rfl
  have c1 := HC0.out.c 1 rfl
  have cz := HC0.out.2.2
  have r0 := HR0.out.c 0 rfl
  have r1 := HR0.out.c 1 rfl
  have rf0 := HR0.out.f 0 (by simp)
  have rf1 := HR0.out.f 1 (by simp)
  have rz := HR0.out.2.2
  have o0 := HO0.out.c 0 rfl
  have o1 := HO0.out.c 1 rfl
  have o2 := HO0.out.c 2 rfl
  have o3 := HO0.out.c 3 rfl
  have of0 := HO0.out.f 0 (by simp)
  have oz := HO0.out.2.2
  have HQ := Lib.hid ho
  have g1 : decide (nx > 1000000) = true := by simp; omega
  have g2 : decide (1000000 < nx) = true := by simp; omega
  clear ho hn
  go_enter Try.func11, Try.ntmps11
  go_wp2_with fail
  refine (isSender_any nx sa sc L true (by have h := HRR.out; simpa using h) _ HL0.out).mono ?_
  rintro e w1 ⟨rfl, b1⟩
  have HC1 := Lib.hid (HC0.out.step b1)
  have HR1 := Lib.hid (HR0.out.step b1)
  have HO1 := Lib.hid (HO0.out.step b1)
  have HB1 := Lib.hid (keep2 b1 HB0.out)
  have HL1 := Lib.hid (HL0.out.step b1)
  clear b1 HC0 HR0 HO0 HB0 HL0 c0 c1 cz r0 r1 rf0 rf1 rz o0 o1 o2 o3 of0 oz
  have c0 := HC1.out.c 0 rfl
  have c1 := HC1.out.c 1 rfl
  have cz := HC1.out.2.2
  have r0 := HR1.out.c 0 rfl
  have r1 := HR1.out.c 1 rfl
  have rf0 := HR1.out.f 0 (by simp)
  have rf1 := HR1.out.f 1 (by simp)
  have rz := HR1.out.2.2
  have o0 := HO1.out.c 0 rfl
  have o1 := HO1.out.c 1 rfl
  have o2 := HO1.out.c 2 rfl
  have o3 := HO1.out.c 3 rfl
  have of0 := HO1.out.f 0 (by simp)
  have oz := HO1.out.2.2
  go_wp2_with fail
  refine (isOrder_any 0 b c d _).mono ?_
  rintro e w2 ⟨rfl, b2⟩
  have HC2 := Lib.hid (HC1.out.step b2)
  have HR2 := Lib.hid (HR1.out.step b2)
  have HO2 := Lib.hid (HO1.out.step b2)
  have HB2 := Lib.hid (keep2 b2 HB1.out)
  have HL2 := Lib.hid (HL1.out.step b2)
  clear b2 HC1 HR1 HO1 HB1 HL1 c0 c1 cz r0 r1 rf0 rf1 rz o0 o1 o2 o3 of0 oz
  have c0 := HC2.out.c 0 rfl
  have c1 := HC2.out.c 1 rfl
  have cz := HC2.out.2.2
  have r0 := HR2.out.c 0 rfl
  have r1 := HR2.out.c 1 rfl
  have rf0 := HR2.out.f 0 (by simp)
  have rf1 := HR2.out.f 1 (by simp)
  have rz := HR2.out.2.2
  have o0 := HO2.out.c 0 rfl
  have o1 := HO2.out.c 1 rfl
  have o2 := HO2.out.c 2 rfl
  have o3 := HO2.out.c 3 rfl
  have of0 := HO2.out.f 0 (by simp)
  have oz := HO2.out.2.2
  rw [show (inr 0 0 1000000 && (inr b 0 1000000000 && (inr c 0 1199 && inr d 0 15))) = true from HQ.out]
  go_wp2_with fail
  have HLE := Lib.hid (show w.heap.size ≤ w.heap.size + 1 by omega)
  refine (fun (h : ∀ V : World, Cs V (w.heap.size + 1) #[.int .i64 0, .slice none 0 0] → Below w.heap.size w V → bodyPost Try.prog Try.f11 _ Exit.ret _ V) => h _ (Cs.set (Cs.set HR2.out 0 (by simp) (.int .i64 0) (vs' := #[.int .i64 0, .slice none 0 0]) rfl) 1 (by simp) (.slice none 0 0) (vs' := #[.int .i64 0, .slice none 0 0]) rfl) ((HB2.out.setCell (p := ⟨w.heap.size + 1, 0, none⟩) HLE.out _).setCell (p := ⟨w.heap.size + 1, 1, none⟩) HLE.out _)) ?_
  intro V hC hB
  have k0 : V.cell? ⟨w.heap.size + 1, 0, none⟩ = some (.int .i64 0) := hC.c 0 rfl
  have k1 : V.cell? ⟨w.heap.size + 1, 1, none⟩ = some (.slice none 0 0) := hC.c 1 rfl
  exact bodyPost_ret (v := .tuple #[.agg #[.int .i64 0, .slice none 0 0], .int .i64 2]) (by simp [results, Try.results11, go_sem, k0, k1]) rfl ⟨0, none, rfl, ods_nil _, by simp, hB⟩
set_option maxRecDepth 100000 in
set_option maxHeartbeats 8000000 in
theorem send_wait (nx b c d : Int) (sa : Option Addr) (sc : Nat) (L : List Od) (hr : SnP nx L) (ho : orB 0 b c d = true) (hn : ¬ 1000000 < nx) (hp : 0 < L.length) (ha : (L.getD 0 zO).a ≤ nx - 16) (w : World) (h : OdsAt w (.slice sa L.length sc) L) (h9 : L.length ≤ 100000) :
    Calls Try.prog 11 #[.agg #[.int .i64 nx, .slice sa L.length sc], .int .i64 b, .int .i64 c, .int .i64 d] w (SeP w 0 [] 30) := by
  have HQ := Lib.hid ho
  have HNX := Lib.hid hr.1
  have g1 : decide (nx > 1000000) = false := by simp; omega
  have g2 : decide (1000000 < nx) = false := by simp; omega
  have e16 : wrap64 (nx - 16) = nx - 16 := IntWalk.wrap64_in _ (by have := hr.1; omega)
  have HC0 := Lib.hid ((Cs.new w w.heap.size #[.int .i64 nx, .slice sa L.length sc] 24 rfl).step (al2 (w := w.alloc (.cells #[.int .i64 nx, .slice sa L.length sc] 24)) (o1 := .cells #[.int .i64 0, .slice none 0 0] 24) (o2 := .cells #[.int .i64 0, .int .i64 b, .int .i64 c, .int .i64 d] 32)))
  have HR0 := Lib.hid ((Cs.new (w.alloc (.cells #[.int .i64 nx, .slice sa L.length sc] 24)) (w.heap.size + 1) #[.int .i64 0, .slice none 0 0] 24 (by simp)).alloc (.cells #[.int .i64 0, .int .i64 b, .int .i64 c, .int .i64 d] 32))
  have HO0 := Lib.hid (Cs.new ((w.alloc (.cells #[.int .i64 nx, .slice sa L.length sc] 24)).alloc (.cells #[.int .i64 0, .slice none 0 0] 24)) (w.heap.size + 1 + 1) #[.int .i64 0, .int .i64 b, .int .i64 c, .int .i64 d] 32 (by simp))
  have HB0 := Lib.hid (al3 (w := w) (o1 := .cells #[.int .i64 nx, .slice sa L.length sc] 24) (o2 := .cells #[.int .i64 0, .slice none 0 0] 24) (o3 := .cells #[.int .i64 0, .int .i64 b, .int .i64 c, .int .i64 d] 32))
  have HL0 := Lib.hid (h.step HB0.out)
  have H0 := Lib.hid h
  have H9 := Lib.hid h9
  have HRR := Lib.hid hr
  have hm : L.length ≤ maxLen := by unfold maxLen; omega
  clear h hr h9
  have c0 := HC0.out.c 0 rfl
  have c1 := HC0.out.c 1 rfl
  have cz := HC0.out.2.2
  have r0 := HR0.out.c 0 rfl
  have r1 := HR0.out.c 1 rfl
  have rf0 := HR0.out.f 0 (by simp)
  have rf1 := HR0.out.f 1 (by simp)
  have rz := HR0.out.2.2
  have o0 := HO0.out.c 0 rfl
  have o1 := HO0.out.c 1 rfl
  have o2 := HO0.out.c 2 rfl
  have o3 := HO0.out.c 3 rfl
  have of0 := HO0.out.f 0 (by simp)
  have oz := HO0.out.2.2
  have HP := Lib.hid hp
  have HA := Lib.hid ha
  clear ho hn hp ha
  go_enter Try.func11, Try.ntmps11
  go_wp2_with fail
  refine (isSender_any nx sa sc L true (by have h := HRR.out; simpa using h) _ HL0.out).mono ?_
  rintro e w1 ⟨rfl, b1⟩
  have HC1 := Lib.hid (HC0.out.step b1)
  have HR1 := Lib.hid (HR0.out.step b1)
  have HO1 := Lib.hid (HO0.out.step b1)
  have HB1 := Lib.hid (keep2 b1 HB0.out)
  have HL1 := Lib.hid (HL0.out.step b1)
  clear b1 HC0 HR0 HO0 HB0 HL0 c0 c1 cz r0 r1 rf0 rf1 rz o0 o1 o2 o3 of0 oz
  have c0 := HC1.out.c 0 rfl
  have c1 := HC1.out.c 1 rfl
  have cz := HC1.out.2.2
  have r0 := HR1.out.c 0 rfl
  have r1 := HR1.out.c 1 rfl
  have rf0 := HR1.out.f 0 (by simp)
  have rf1 := HR1.out.f 1 (by simp)
  have rz := HR1.out.2.2
  have o0 := HO1.out.c 0 rfl
  have o1 := HO1.out.c 1 rfl
  have o2 := HO1.out.c 2 rfl
  have o3 := HO1.out.c 3 rfl
  have of0 := HO1.out.f 0 (by simp)
  have oz := HO1.out.2.2
  go_wp2_with fail
  refine (isOrder_any 0 b c d _).mono ?_
  rintro e w2 ⟨rfl, b2⟩
  have HC2 := Lib.hid (HC1.out.step b2)
  have HR2 := Lib.hid (HR1.out.step b2)
  have HO2 := Lib.hid (HO1.out.step b2)
  have HB2 := Lib.hid (keep2 b2 HB1.out)
  have HL2 := Lib.hid (HL1.out.step b2)
  clear b2 HC1 HR1 HO1 HB1 HL1 c0 c1 cz r0 r1 rf0 rf1 rz o0 o1 o2 o3 of0 oz
  have c0 := HC2.out.c 0 rfl
  have c1 := HC2.out.c 1 rfl
  have cz := HC2.out.2.2
  have r0 := HR2.out.c 0 rfl
  have r1 := HR2.out.c 1 rfl
  have rf0 := HR2.out.f 0 (by simp)
  have rf1 := HR2.out.f 1 (by simp)
  have rz := HR2.out.2.2
  have o0 := HO2.out.c 0 rfl
  have o1 := HO2.out.c 1 rfl
  have o2 := HO2.out.c 2 rfl
  have o3 := HO2.out.c 3 rfl
  have of0 := HO2.out.f 0 (by simp)
  have oz := HO2.out.2.2
  rw [show (inr 0 0 1000000 && (inr b 0 1000000000 && (inr c 0 1199 && inr d 0 15))) = true from HQ.out]
  go_upto_region 6 with fail
  go_cut [42] from 28 to 42 (fun v wc => v = .bool true ∧ Below w2.heap.size w2 wc)
  case first =>
    obtain ⟨ta, tc, hv1, -, -, hcs1⟩ := HL2.out
    obtain ⟨rfl, rfl⟩ : sa = ta ∧ sc = tc := by simpa using hv1
    obtain ⟨b1, p1, rfl, hx1⟩ := hcs1 (by intro e; rw [e] at HP; exact absurd HP.out (by simp))
    obtain ⟨y0, -, -, -⟩ := hx1 0 _ (od_get HP.out)
    have yz : b1 < w2.heap.size := World.block_lt_of_cell? _ _ y0
    have t1 : (0 : Int) < (L.length : Int) := by have := HP.out; omega
    have t2 : decide ((0 : Int) < (L.length : Int)) = true := decide_eq_true t1
    have t3 : 0 < L.length := HP.out
    obtain ⟨x, hx⟩ : ∃ x, (L.getD 0 zO).a = x := ⟨_, rfl⟩
    rw [hx] at y0 HA
    simp only [Nat.zero_mul, Nat.add_zero] at y0
    clear hcs1 hx1 hv1 hx
    have t4 : decide (x ≤ nx - 16) = true := decide_eq_true HA.out
    go_quiet (fail)
    go_wp2
    go_meet
    exact ⟨by first | rfl | trivial, below_drewN' _ _ _⟩
  case rest =>
    obtain ⟨rfl, b3⟩ := hcut
    have HC3 := Lib.hid (HC2.out.step b3)
    have HR3 := Lib.hid (HR2.out.step b3)
    have HO3 := Lib.hid (HO2.out.step b3)
    have HB3 := Lib.hid (keep2 b3 HB2.out)
    clear b3 HC2 HR2 HO2 HB2 c0 c1 cz r0 r1 rf0 rf1 rz o0 o1 o2 o3 of0 oz
    have c0 := HC3.out.c 0 rfl
    have c1 := HC3.out.c 1 rfl
    have cz := HC3.out.2.2
    have r0 := HR3.out.c 0 rfl
    have r1 := HR3.out.c 1 rfl
    have rf0 := HR3.out.f 0 (by simp)
    have rf1 := HR3.out.f 1 (by simp)
    have rz := HR3.out.2.2
    have o0 := HO3.out.c 0 rfl
    have o1 := HO3.out.c 1 rfl
    have o2 := HO3.out.c 2 rfl
    have o3 := HO3.out.c 3 rfl
    have of0 := HO3.out.f 0 (by simp)
    have oz := HO3.out.2.2
    go_wp2_with fail
    have HLE := Lib.hid (show w.heap.size ≤ w.heap.size + 1 by omega)
    refine (fun (h : ∀ V : World, Cs V (w.heap.size + 1) #[.int .i64 0, .slice none 0 0] → Below w.heap.size w V → bodyPost Try.prog Try.f11 _ Exit.ret _ V) => h _ (Cs.set (Cs.set HR3.out 0 (by simp) (.int .i64 0) (vs' := #[.int .i64 0, .slice none 0 0]) rfl) 1 (by simp) (.slice none 0 0) (vs' := #[.int .i64 0, .slice none 0 0]) rfl) ((HB3.out.setCell (p := ⟨w.heap.size + 1, 0, none⟩) HLE.out _).setCell (p := ⟨w.heap.size + 1, 1, none⟩) HLE.out _)) ?_
    intro V hC hB
    have k0 : V.cell? ⟨w.heap.size + 1, 0, none⟩ = some (.int .i64 0) := hC.c 0 rfl
    have k1 : V.cell? ⟨w.heap.size + 1, 1, none⟩ = some (.slice none 0 0) := hC.c 1 rfl
    exact bodyPost_ret (v := .tuple #[.agg #[.int .i64 0, .slice none 0 0], .int .i64 30]) (by simp [results, Try.results11, go_sem, k0, k1]) rfl ⟨0, none, rfl, ods_nil _, by simp, hB⟩
set_option maxRecDepth 100000 in
set_option maxHeartbeats 8000000 in
theorem send_ok (nx b c d : Int) (sa : Option Addr) (sc : Nat) (L : List Od) (hr : SnP nx L) (ho : orB 0 b c d = true) (hn : ¬ 1000000 < nx) (ha : 0 < L.length → nx - 16 < (L.getD 0 zO).a) (w : World) (h : OdsAt w (.slice sa L.length sc) L) (h9 : L.length ≤ 100000) :
    Calls Try.prog 11 #[.agg #[.int .i64 nx, .slice sa L.length sc], .int .i64 b, .int .i64 c, .int .i64 d] w (SeP w (nx + 1) (L ++ [⟨nx, b, c, d⟩]) 0) := by
  have HQ := Lib.hid ho
  have HNX := Lib.hid hr.1
  have g1 : decide (nx > 1000000) = false := by simp; omega
  have g2 : decide (1000000 < nx) = false := by simp; omega
  have e16 : wrap64 (nx - 16) = nx - 16 := IntWalk.wrap64_in _ (by have := hr.1; omega)
  have HC0 := Lib.hid ((Cs.new w w.heap.size #[.int .i64 nx, .slice sa L.length sc] 24 rfl).step (al2 (w := w.alloc (.cells #[.int .i64 nx, .slice sa L.length sc] 24)) (o1 := .cells #[.int .i64 0, .slice none 0 0] 24) (o2 := .cells #[.int .i64 0, .int .i64 b, .int .i64 c, .int .i64 d] 32)))
  have HR0 := Lib.hid ((Cs.new (w.alloc (.cells #[.int .i64 nx, .slice sa L.length sc] 24)) (w.heap.size + 1) #[.int .i64 0, .slice none 0 0] 24 (by simp)).alloc (.cells #[.int .i64 0, .int .i64 b, .int .i64 c, .int .i64 d] 32))
  have HO0 := Lib.hid (Cs.new ((w.alloc (.cells #[.int .i64 nx, .slice sa L.length sc] 24)).alloc (.cells #[.int .i64 0, .slice none 0 0] 24)) (w.heap.size + 1 + 1) #[.int .i64 0, .int .i64 b, .int .i64 c, .int .i64 d] 32 (by simp))
  have HB0 := Lib.hid (al3 (w := w) (o1 := .cells #[.int .i64 nx, .slice sa L.length sc] 24) (o2 := .cells #[.int .i64 0, .slice none 0 0] 24) (o3 := .cells #[.int .i64 0, .int .i64 b, .int .i64 c, .int .i64 d] 32))
  have HL0 := Lib.hid (h.step HB0.out)
  have H0 := Lib.hid h
  have H9 := Lib.hid h9
  have HRR := Lib.hid hr
  have hm : L.length ≤ maxLen := by unfold maxLen; omega
  clear h hr h9
  have c0 := HC0.out.c 0 rfl
  have c1 := HC0.out.c 1 rfl
  have cz := HC0.out.2.2
  have r0 := HR0.out.c 0 rfl
  have r1 := HR0.out.c 1 rfl
  have rf0 := HR0.out.f 0 (by simp)
  have rf1 := HR0.out.f 1 (by simp)
  have rz := HR0.out.2.2
  have o0 := HO0.out.c 0 rfl
  have o1 := HO0.out.c 1 rfl
  have o2 := HO0.out.c 2 rfl
  have o3 := HO0.out.c 3 rfl
  have of0 := HO0.out.f 0 (by simp)
  have oz := HO0.out.2.2
  have HA := Lib.hid ha
  clear ho hn ha
  go_enter Try.func11, Try.ntmps11
  go_wp2_with fail
  refine (isSender_any nx sa sc L true (by have h := HRR.out; simpa using h) _ HL0.out).mono ?_
  rintro e w1 ⟨rfl, b1⟩
  have HC1 := Lib.hid (HC0.out.step b1)
  have HR1 := Lib.hid (HR0.out.step b1)
  have HO1 := Lib.hid (HO0.out.step b1)
  have HB1 := Lib.hid (keep2 b1 HB0.out)
  have HL1 := Lib.hid (HL0.out.step b1)
  clear b1 HC0 HR0 HO0 HB0 HL0 c0 c1 cz r0 r1 rf0 rf1 rz o0 o1 o2 o3 of0 oz
  have c0 := HC1.out.c 0 rfl
  have c1 := HC1.out.c 1 rfl
  have cz := HC1.out.2.2
  have r0 := HR1.out.c 0 rfl
  have r1 := HR1.out.c 1 rfl
  have rf0 := HR1.out.f 0 (by simp)
  have rf1 := HR1.out.f 1 (by simp)
  have rz := HR1.out.2.2
  have o0 := HO1.out.c 0 rfl
  have o1 := HO1.out.c 1 rfl
  have o2 := HO1.out.c 2 rfl
  have o3 := HO1.out.c 3 rfl
  have of0 := HO1.out.f 0 (by simp)
  have oz := HO1.out.2.2
  go_wp2_with fail
  refine (isOrder_any 0 b c d _).mono ?_
  rintro e w2 ⟨rfl, b2⟩
  have HC2 := Lib.hid (HC1.out.step b2)
  have HR2 := Lib.hid (HR1.out.step b2)
  have HO2 := Lib.hid (HO1.out.step b2)
  have HB2 := Lib.hid (keep2 b2 HB1.out)
  have HL2 := Lib.hid (HL1.out.step b2)
  clear b2 HC1 HR1 HO1 HB1 HL1 c0 c1 cz r0 r1 rf0 rf1 rz o0 o1 o2 o3 of0 oz
  have c0 := HC2.out.c 0 rfl
  have c1 := HC2.out.c 1 rfl
  have cz := HC2.out.2.2
  have r0 := HR2.out.c 0 rfl
  have r1 := HR2.out.c 1 rfl
  have rf0 := HR2.out.f 0 (by simp)
  have rf1 := HR2.out.f 1 (by simp)
  have rz := HR2.out.2.2
  have o0 := HO2.out.c 0 rfl
  have o1 := HO2.out.c 1 rfl
  have o2 := HO2.out.c 2 rfl
  have o3 := HO2.out.c 3 rfl
  have of0 := HO2.out.f 0 (by simp)
  have oz := HO2.out.2.2
  rw [show (inr 0 0 1000000 && (inr b 0 1000000000 && (inr c 0 1199 && inr d 0 15))) = true from HQ.out]
  go_upto_region 6 with fail
  go_cut [42] from 28 to 42 (fun v wc => v = .bool false ∧ Below w2.heap.size w2 wc)
  case first =>
    by_cases hp : 0 < L.length
    · have HP := Lib.hid hp
      have HA2 := Lib.hid (HA.out hp)
      clear hp
      obtain ⟨ta, tc, hv1, -, -, hcs1⟩ := HL2.out
      obtain ⟨rfl, rfl⟩ : sa = ta ∧ sc = tc := by simpa using hv1
      obtain ⟨b1, p1, rfl, hx1⟩ := hcs1 (by intro e; rw [e] at HP; exact absurd HP.out (by simp))
      obtain ⟨y0, -, -, -⟩ := hx1 0 _ (od_get HP.out)
      have yz : b1 < w2.heap.size := World.block_lt_of_cell? _ _ y0
      have t1 : (0 : Int) < (L.length : Int) := by have := HP.out; omega
      have t2 : decide ((0 : Int) < (L.length : Int)) = true := decide_eq_true t1
      have t3 : 0 < L.length := HP.out
      obtain ⟨x, hx⟩ : ∃ x, (L.getD 0 zO).a = x := ⟨_, rfl⟩
      rw [hx] at y0 HA2
      simp only [Nat.zero_mul, Nat.add_zero] at y0
      clear hcs1 hx1 hv1 hx
      have t4 : decide (x ≤ nx - 16) = false := by have := HA2.out; simp; omega
      go_quiet (fail)
      go_wp2
      go_meet
      exact ⟨by first | rfl | trivial, below_drewN' _ _ _⟩
    · have t1 : ¬ (0 : Int) < (L.length : Int) := by omega
      have t2 : decide ((0 : Int) < (L.length : Int)) = false := decide_eq_false t1
      go_quiet (fail)
      go_wp2
      go_meet
      exact ⟨by first | rfl | trivial, below_drewN' _ _ _⟩
  case rest =>
    obtain ⟨rfl, b3⟩ := hcut
    have HC3 := Lib.hid (HC2.out.step b3)
    have HR3 := Lib.hid (HR2.out.step b3)
    have HO3 := Lib.hid (HO2.out.step b3)
    have HB3 := Lib.hid (keep2 b3 HB2.out)
    have HL3 := Lib.hid (HL2.out.step b3)
    clear b3 HC2 HR2 HO2 HB2 HL2 c0 c1 cz r0 r1 rf0 rf1 rz o0 o1 o2 o3 of0 oz
    have c0 := HC3.out.c 0 rfl
    have c1 := HC3.out.c 1 rfl
    have cz := HC3.out.2.2
    have r0 := HR3.out.c 0 rfl
    have r1 := HR3.out.c 1 rfl
    have rf0 := HR3.out.f 0 (by simp)
    have rf1 := HR3.out.f 1 (by simp)
    have rz := HR3.out.2.2
    have o0 := HO3.out.c 0 rfl
    have o1 := HO3.out.c 1 rfl
    have o2 := HO3.out.c 2 rfl
    have o3 := HO3.out.c 3 rfl
    have of0 := HO3.out.f 0 (by simp)
    have oz := HO3.out.2.2
    go_upto_region 9 with fail
    have HB4 := Lib.hid (HB3.out.setCell (p := ⟨w.heap.size + 1 + 1, 0, none⟩) (show w.heap.size ≤ w.heap.size + 1 + 1 by omega) (.int .i64 nx))
    have HC4 := Lib.hid (Cs.other HC3.out (show w.heap.size ≠ w.heap.size + 1 + 1 by omega) 0 (.int .i64 nx))
    have HR4 := Lib.hid (Cs.other HR3.out (show w.heap.size + 1 ≠ w.heap.size + 1 + 1 by omega) 0 (.int .i64 nx))
    have HO4 := Lib.hid (Cs.set HO3.out 0 (by simp) (.int .i64 nx) (vs' := #[.int .i64 nx, .int .i64 b, .int .i64 c, .int .i64 d]) rfl)
    have HL4 := Lib.hid (H0.out.step HB4.out)
    obtain ⟨W, hW⟩ : ∃ z, wc.setCell ⟨w.heap.size + 1 + 1, 0, none⟩ (.int .i64 nx) = z := ⟨_, rfl⟩
    rw [hW] at HB4 HC4 HR4 HO4 HL4 ⊢
    have HW17 := Lib.hid (show IntKind.i64.wrap (nx + 1) = nx + 1 from IntWalk.i64_in _ (by have := HNX.out; omega))
    have HZ := Lib.hid (show w.heap.size + 1 < W.heap.size from HR4.out.2.2)
    clear hW HB3 HC3 HR3 HO3 HL3 H0 hm e16 g1 g2 c0 c1 cz r0 r1 rf0 rf1 rz o0 o1 o2 o3 of0 oz
    obtain ⟨lit, hlit⟩ : ∃ lit : (Nat → Value) → Act, lit = fun vs => { tmps := #[.agg #[.int .i64 nx, .slice sa L.length sc], .int .i64 b, .int .i64 c, .int .i64 d, .pointer (some ⟨w.heap.size, 0, none⟩), undef, undef, undef, .pointer (some ⟨(w.heap.size + 1), 0, none⟩), vs 11, .pointer (some ⟨(w.heap.size + 1 + 1), 0, none⟩), .int .i64 b, .int .i64 c, .int .i64 d, .agg #[.int .i64 0, .int .i64 b, .int .i64 c, .int .i64 d], .agg #[.int .i64 nx, .slice sa L.length sc], .bool true, .bool false, .bool false, .agg #[.int .i64 0, .int .i64 b, .int .i64 c, .int .i64 d], .bool true, .bool false, .bool false, undef, .pointer (some ⟨w.heap.size, 0, none⟩), .int .i64 nx, .bool false, undef, u28, u29, u30, u31, u32, u33, u34, u35, u36, u37, u38, u39, u40, u41, .bool false, undef, .pointer (some ⟨w.heap.size, 0, none⟩), .int .i64 nx, .pointer (some ⟨(w.heap.size + 1 + 1), 0, none⟩), vs 0, vs 1, vs 2, vs 3, vs 4, vs 5, vs 6, vs 7, vs 8, vs 9], defers := [] } := ⟨_, rfl⟩
    have HLIT := Lib.hid hlit
    clear hlit
    obtain ⟨val, hval⟩ : ∃ val : List Value, val = [.pointer (some ⟨w.heap.size, 0, none⟩), .int .i64 nx, .int .i64 (nx + 1), .pointer (some ⟨w.heap.size, 1, none⟩), .slice sa L.length sc, undef, .agg #[.int .i64 nx, .int .i64 b, .int .i64 c, .int .i64 d], undef, undef, undef, undef, undef] := ⟨_, rfl⟩
    have E0 := Lib.hid (show val.getD 0 undef = .pointer (some ⟨w.heap.size, 0, none⟩) by rw [hval]; rfl)
    have E1 := Lib.hid (show val.getD 1 undef = .int .i64 nx by rw [hval]; rfl)
    have E2 := Lib.hid (show val.getD 2 undef = .int .i64 (nx + 1) by rw [hval]; rfl)
    have E3 := Lib.hid (show val.getD 3 undef = .pointer (some ⟨w.heap.size, 1, none⟩) by rw [hval]; rfl)
    have E4 := Lib.hid (show val.getD 4 undef = .slice sa L.length sc by rw [hval]; rfl)
    have E6 := Lib.hid (show val.getD 6 undef = .agg #[.int .i64 nx, .int .i64 b, .int .i64 c, .int .i64 d] by rw [hval]; rfl)
    clear hval
    obtain ⟨G, hG0⟩ : ∃ G, G = Gr val (nx + 1) L ⟨nx, b, c, d⟩ W.heap.size := ⟨_, rfl⟩
    have HG := Lib.hid hG0
    clear hG0
    refine region_inv (SQ lit G (Below W.heap.size W) fun wv => ∃ (a7 : Option Addr) (c7 : Nat), L.length + 1 ≤ c7 ∧ Cs wv (w.heap.size + 1) #[.int .i64 (nx + 1), .slice a7 (L.length + 1) c7] ∧ OdsAt wv (.slice a7 (L.length + 1) c7) (L ++ [⟨nx, b, c, d⟩]) ∧ Below w.heap.size w wv) (by kernel_rfl) (by decide +kernel) ?_ ?_ ?_
    · exact ⟨fun i => ([undef, undef, undef, undef, undef, undef, undef, undef, undef, undef, undef, .int .i64 0] : List Value).getD i undef, (by rw [HLIT.out]; rfl), fun h => (by cases h), .inl ⟨rfl, fun h => (by cases h), below_drew _ _, fun i _ h => (by cases h)⟩⟩
    · refine ⟨?_, ?_, ?_, ?_, ?_, ?_, ?_, ?_, ?_, ?_, ?_, ?_, trivial⟩
      · intro bf ac wv hfb haf hJ K' hK
        obtain ⟨vs, rfl, j1, j2, j17, hM, j4⟩ := hJ.open 0 (by omega) hfb
        replace hK := Lib.hid hK
        have HM := Lib.hid hM
        clear hM
        rw [HG.out] at j4
        clear haf
        replace j4 := Lib.hid (And.intro j1 (And.intro j2 (And.intro j17 j4)))
        clear j1 j2 j17
        rw [HLIT.out]
        go_simp
        exact hK.out _ _ (SQ.next (vs := vs) 0 (by omega) (fun h => by omega) (up_ne _ _ _ (by omega)) (x := .pointer (some ⟨w.heap.size, 0, none⟩)) (by rw [HLIT.out]; rfl) (by rw [HG.out]; exact j4.out) HM.out (by rw [HG.out]; exact fun _ _ _ h => h) (by rw [HG.out]; exact ⟨fun h => absurd h (by decide), fun h => absurd h (by decide), fun h => absurd h (by decide), fun h => absurd h (by decide), fun _ => E0.out.symm⟩))
      · intro bf ac wv hfb haf hJ K' hK
        obtain ⟨vs, rfl, j1, j2, j17, hM, j4⟩ := hJ.open 1 (by omega) hfb
        replace hK := Lib.hid hK
        have HM := Lib.hid hM
        clear hM
        simp [Region.binds] at haf
        rw [HG.out] at j4
        have e0 : vs 0 = _ := ((j4 0 (by omega) (by simp [haf])).2.2.2.2 ⟨by decide, by decide, by decide, by decide⟩).trans E0.out
        clear haf
        replace j4 := Lib.hid (And.intro j1 (And.intro j2 (And.intro j17 j4)))
        clear j1 j2 j17
        have K1 := HC4.out.step HM.out
        have x0 := K1.c 0 rfl
        have xz := K1.2.2
        clear K1
        rw [HLIT.out]
        go_simp
        exact hK.out _ _ (SQ.next (vs := vs) 1 (by omega) (fun h => by omega) (up_ne _ _ _ (by omega)) (x := .int .i64 nx) (by rw [HLIT.out]; simp only [upv, e0, Nat.reduceBEq, cond_true, cond_false]) (by rw [HG.out]; exact j4.out) HM.out (by rw [HG.out]; exact fun _ _ _ h => h) (by rw [HG.out]; exact ⟨fun h => absurd h (by decide), fun h => absurd h (by decide), fun h => absurd h (by decide), fun h => absurd h (by decide), fun _ => E1.out.symm⟩))
      · intro bf ac wv hfb haf hJ K' hK
        obtain ⟨vs, rfl, j1, j2, j17, hM, j4⟩ := hJ.open 2 (by omega) hfb
        replace hK := Lib.hid hK
        have HM := Lib.hid hM
        clear hM
        simp [Region.binds] at haf
        rw [HG.out] at j4
        have e1 : vs 1 = _ := ((j4 1 (by omega) (by simp [haf])).2.2.2.2 ⟨by decide, by decide, by decide, by decide⟩).trans E1.out
        clear haf
        replace j4 := Lib.hid (And.intro j1 (And.intro j2 (And.intro j17 j4)))
        clear j1 j2 j17
        rw [HLIT.out]
        go_simp
        exact hK.out _ _ (SQ.next (vs := vs) 2 (by omega) (fun h => by omega) (up_ne _ _ _ (by omega)) (x := .int .i64 (nx + 1)) (by rw [HLIT.out]; simp only [upv, e1, HW17.out, Nat.reduceBEq, cond_true, cond_false]) (by rw [HG.out]; exact j4.out) HM.out (by rw [HG.out]; exact fun _ _ _ h => h) (by rw [HG.out]; exact ⟨fun h => absurd h (by decide), fun h => absurd h (by decide), fun h => absurd h (by decide), fun h => absurd h (by decide), fun _ => E2.out.symm⟩))
      · intro bf ac wv hfb haf hJ K' hK
        obtain ⟨vs, rfl, j1, j2, j17, hM, j4⟩ := hJ.open 3 (by omega) hfb
        replace hK := Lib.hid hK
        have HM := Lib.hid hM
        clear hM
        rw [HG.out] at j4
        clear haf
        replace j4 := Lib.hid (And.intro j1 (And.intro j2 (And.intro j17 j4)))
        clear j1 j2 j17
        rw [HLIT.out]
        go_simp
        exact hK.out _ _ (SQ.next (vs := vs) 3 (by omega) (fun h => by omega) (up_ne _ _ _ (by omega)) (x := .pointer (some ⟨w.heap.size, 1, none⟩)) (by rw [HLIT.out]; rfl) (by rw [HG.out]; exact j4.out) HM.out (by rw [HG.out]; exact fun _ _ _ h => h) (by rw [HG.out]; exact ⟨fun h => absurd h (by decide), fun h => absurd h (by decide), fun h => absurd h (by decide), fun h => absurd h (by decide), fun _ => E3.out.symm⟩))
      · intro bf ac wv hfb haf hJ K' hK
        obtain ⟨vs, rfl, j1, j2, j17, hM, j4⟩ := hJ.open 4 (by omega) hfb
        replace hK := Lib.hid hK
        have HM := Lib.hid hM
        clear hM
        simp [Region.binds] at haf
        rw [HG.out] at j4
        have e3 : vs 3 = _ := ((j4 3 (by omega) (by simp [haf])).2.2.2.2 ⟨by decide, by decide, by decide, by decide⟩).trans E3.out
        clear haf
        replace j4 := Lib.hid (And.intro j1 (And.intro j2 (And.intro j17 j4)))
        clear j1 j2 j17
        have K1 := HC4.out.step HM.out
        have x1 := K1.c 1 rfl
        have xz := K1.2.2
        clear K1
        rw [HLIT.out]
        go_simp
        exact hK.out _ _ (SQ.next (vs := vs) 4 (by omega) (fun h => by omega) (up_ne _ _ _ (by omega)) (x := .slice sa L.length sc) (by rw [HLIT.out]; simp only [upv, e3, Nat.reduceBEq, cond_true, cond_false]) (by rw [HG.out]; exact j4.out) HM.out (by rw [HG.out]; exact fun _ _ _ h => h) (by rw [HG.out]; exact ⟨fun h => absurd h (by decide), fun h => absurd h (by decide), fun h => absurd h (by decide), fun h => absurd h (by decide), fun _ => E4.out.symm⟩))
      · intro bf ac wv hfb haf hJ K' hK
        obtain ⟨vs, rfl, j1, j2, j17, hM, j4⟩ := hJ.open 5 (by omega) hfb
        replace hK := Lib.hid hK
        have HM := Lib.hid hM
        clear hM
        simp [Region.binds] at haf
        rw [HG.out] at j4
        have e4 : vs 4 = _ := ((j4 4 (by omega) (by simp [haf])).2.2.2.2 ⟨by decide, by decide, by decide, by decide⟩).trans E4.out
        clear haf
        replace j4 := Lib.hid (And.intro j1 (And.intro j2 (And.intro j17 j4)))
        clear j1 j2 j17
        rw [HLIT.out]
        go_simp
        go_at_call 31
        refine (od_clone (.slice sa L.length sc) L _ (HL4.out.step HM.out) H9.out).mono ?_
        rintro e w4 ⟨u, rfl, hu, b4⟩
        exact hK.out _ _ (SQ.next (vs := vs) 5 (by omega) (fun h => by omega) (up_ne _ _ _ (by omega)) (x := u) (by rw [HLIT.out]; simp only [upv, e4, Nat.reduceBEq, cond_true, cond_false]) (by rw [HG.out]; exact j4.out) (keep2 b4 HM.out) (by rw [HG.out]; exact fun k _ _ h => Gr.step b4 k _ h) (by rw [HG.out]; exact ⟨fun _ _ => row_baseD hu HM.out.size, fun h => absurd h (by decide), fun h => absurd h (by decide), fun h => absurd h (by decide), fun h => absurd rfl h.1⟩))
      · intro bf ac wv hfb haf hJ K' hK
        obtain ⟨vs, rfl, j1, j2, j17, hM, j4⟩ := hJ.open 6 (by omega) hfb
        replace hK := Lib.hid hK
        have HM := Lib.hid hM
        clear hM
        rw [HG.out] at j4
        clear haf
        replace j4 := Lib.hid (And.intro j1 (And.intro j2 (And.intro j17 j4)))
        clear j1 j2 j17
        have K1 := HO4.out.step HM.out
        have x0 := K1.c 0 rfl
        have x1 := K1.c 1 rfl
        have x2 := K1.c 2 rfl
        have x3 := K1.c 3 rfl
        have xz := K1.2.2
        clear K1
        rw [HLIT.out]
        go_simp
        exact hK.out _ _ (SQ.next (vs := vs) 6 (by omega) (fun h => by omega) (up_ne _ _ _ (by omega)) (x := .agg #[.int .i64 nx, .int .i64 b, .int .i64 c, .int .i64 d]) (by rw [HLIT.out]; rfl) (by rw [HG.out]; exact j4.out) HM.out (by rw [HG.out]; exact fun _ _ _ h => h) (by rw [HG.out]; exact ⟨fun h => absurd h (by decide), fun h => absurd h (by decide), fun h => absurd h (by decide), fun h => absurd h (by decide), fun _ => E6.out.symm⟩))
      · intro bf ac wv hfb haf hJ K' hK
        obtain ⟨vs, rfl, j1, j2, j17, hM, j4⟩ := hJ.open 7 (by omega) hfb
        replace hK := Lib.hid hK
        have HM := Lib.hid hM
        clear hM
        simp [Region.binds] at haf
        rw [HG.out] at j4
        have e6 : vs 6 = _ := ((j4 6 (by omega) (by simp [haf])).2.2.2.2 ⟨by decide, by decide, by decide, by decide⟩).trans E6.out
        clear haf
        replace j4 := Lib.hid (And.intro j1 (And.intro j2 (And.intro j17 j4)))
        clear j1 j2 j17
        rw [HLIT.out]
        go_simp
        exact hK.out _ _ (SQ.next (vs := vs) 7 (by omega) (fun h => by omega) (up_ne _ _ _ (by omega)) (x := .slice (some ⟨wv.heap.size, 0, none⟩) 1 1) (by rw [HLIT.out]; simp only [upv, e6, Nat.reduceBEq, cond_true, cond_false]) (by rw [HG.out]; exact j4.out) (keep2 (al _ _) HM.out) (by rw [HG.out]; exact fun k _ _ h => Gr.step (al _ _) k _ h) (by rw [HG.out]; exact ⟨fun h => absurd h (by decide), fun _ _ => ⟨wv.heap.size, rfl, BoxN.new wv #[.int .i64 nx, .int .i64 b, .int .i64 c, .int .i64 d] 32⟩, fun h => absurd h (by decide), fun h => absurd h (by decide), fun h => absurd rfl h.2.1⟩))
      · intro bf ac wv hfb haf hJ K' hK
        obtain ⟨vs, rfl, j1, j2, j17, hM, j4⟩ := hJ.open 8 (by omega) hfb
        replace hK := Lib.hid hK
        have HM := Lib.hid hM
        clear hM
        simp [Region.binds] at haf
        rw [HG.out] at j4
        rw [hfb] at j4
        have h9f : bf 9 = false := Bool.eq_false_iff.2 fun h => absurd ((j17 h).symm.trans hfb) (by simp)
        have e5 := (j4 5 (by omega) (by simp [haf])).1 rfl rfl
        obtain ⟨g7, e7, hb7⟩ := (j4 7 (by omega) (by simp [haf])).2.1 rfl rfl
        have nx7 : ∀ j u, ([.int .i64 nx, .int .i64 b, .int .i64 c, .int .i64 d] : List Value)[j]? = some u → wv.cell? ((⟨g7, 0, none⟩ : Addr).add j) = some u := World.news_of_block hb7
        obtain ⟨i0, hi, hz0, hz1, hz2⟩ := info_parts od_info
        obtain ⟨v8, w8, hr8, ho8, hg8, -, -⟩ := run_append_own_at (P := Try.prog) wv W.heap.size 22 22 32 i0 _ 4 32 Try.underlying22 hi hz0 hz1 hz2 rfl (by decide) (vs 5) L.length (ocs L) e5 ⟨g7, 0, none⟩ 1 1 [.int .i64 nx, .int .i64 b, .int .i64 c, .int .i64 d] rfl nx7 (by simp [Value.oneCell']) (by have := H9.out; unfold maxLen; omega) (by have := H9.out; omega) HM.out.size
        rw [HLIT.out]
        refine step_app rfl _ _ 22 rfl _ _ v8 rfl e7 hr8 ?_
        exact hK.out _ _ (SQ.next (vs := vs) 8 (by omega) (fun h => by omega) (up_same _ _) (x := v8) (by rw [HLIT.out]; rfl) (by rw [HG.out, hfb]; exact ⟨j1, j2, fun h => absurd (h9f.symm.trans h) (by simp), j4⟩) (HM.out.grown hg8 HM.out.size (fun k e => row_own e5 e)) (by
          rw [HG.out, hfb]
          exact fun k hk hbk h => ⟨fun _ d => (by cases d), fun _ d => (by cases d), fun e => absurd e hk, fun e => absurd ((e ▸ hbk : bf 9 = true).symm.trans h9f) (by simp), h.2.2.2.2⟩) (by rw [HG.out]; exact ⟨fun h => absurd h (by decide), fun h => absurd h (by decide), fun _ => (show w8.ownsRow _ 32 4 v8 (L.length + 1) (ocs (L ++ [⟨nx, b, c, d⟩])) by rw [ocs_app, ocs_one]; exact ho8), fun h => absurd h (by decide), fun h => absurd rfl h.2.2.1⟩))
      · intro bf ac wv hfb haf hJ K' hK
        obtain ⟨vs, rfl, j1, j2, j17, hM, j4⟩ := hJ.open 9 (by omega) hfb
        replace hK := Lib.hid hK
        have HM := Lib.hid hM
        clear hM
        simp [Region.binds] at haf
        rw [HG.out] at j4
        have e2 : vs 2 = _ := ((j4 2 (by omega) (by simp [haf])).2.2.2.2 ⟨by decide, by decide, by decide, by decide⟩).trans E2.out
        have e8 := (j4 8 (by omega) (by simp [haf])).2.2.1 rfl
        have h8t : bf 8 = true := by simp [haf]
        clear haf
        replace j4 := Lib.hid (And.intro j1 (And.intro j2 (And.intro j17 j4)))
        clear j1 j2 j17
        have R7 := Lib.hid e8
        obtain ⟨a7, c7, hx7⟩ := row_slice e8
        rw [hx7] at R7
        clear e8
        rw [HLIT.out]
        go_simp
        exact hK.out _ _ (SQ.next (vs := vs) 9 (by omega) (fun _ => h8t) (up_ne _ _ _ (by omega)) (x := .agg #[.int .i64 (nx + 1), .slice a7 (L.length + 1) c7]) (by rw [HLIT.out]; simp only [upv, e2, hx7, Nat.reduceBEq, cond_true, cond_false]) (by rw [HG.out]; exact j4.out) HM.out (by rw [HG.out]; exact fun _ _ _ h => h) (by rw [HG.out]; exact ⟨fun h => absurd h (by decide), fun h => absurd h (by decide), fun h => absurd h (by decide), fun _ => ⟨_, rfl, R7.out⟩, fun h => absurd rfl h.2.2.2⟩))
      · intro bf ac wv hfb haf hJ K' hK
        obtain ⟨vs, rfl, j1, hM, j4⟩ := hJ.open10 hfb
        replace hK := Lib.hid hK
        have HM := Lib.hid hM
        simp [Region.binds] at haf
        clear hM
        have HA := Lib.hid (show ∀ i, i < 10 → bf i = true from fun i hi => by
          obtain rfl | rfl | rfl | rfl | rfl | rfl | rfl | rfl | rfl | rfl : i = 0 ∨ i = 1 ∨ i = 2 ∨ i = 3 ∨ i = 4 ∨ i = 5 ∨ i = 6 ∨ i = 7 ∨ i = 8 ∨ i = 9 := by omega
          all_goals simp [haf])
        clear haf hfb
        rw [HG.out] at j4
        obtain ⟨u, e17, r17⟩ := (j4 9 (by omega) (HA.out 9 (by omega))).2.2.2.1 rfl
        obtain ⟨a7, c7, rfl⟩ := row_slice r17
        replace j4 := Lib.hid j4
        replace j1 := Lib.hid j1
        have R7 := Lib.hid r17
        clear r17
        have KR1 := Lib.hid (HR4.out.step HM.out)
        have x0 := KR1.out.c 0 rfl
        have y0 := KR1.out.f 0 (by simp)
        have x1 := KR1.out.c 1 rfl
        have y1 := KR1.out.f 1 (by simp)
        have xz := KR1.out.2.2
        rw [HLIT.out]
        go_simp
        exact hK.out _ _ (SQ.fin (vs := vs) (by rw [HLIT.out]; simp only [e17]) j1.out HA.out ⟨a7, c7, row_capD R7.out, Cs.set (Cs.set KR1.out 0 (by simp) _ rfl) 1 (by simp) _ rfl, ods_of_row (by simp) (ownsRow_setCell_below (ownsRow_setCell_below R7.out (a := ⟨w.heap.size + 1, 0, none⟩) HZ.out _) (a := ⟨w.heap.size + 1, 1, none⟩) HZ.out _), ((keep2 HM.out HB4.out).setCell (p := ⟨w.heap.size + 1, 0, none⟩) (show w.heap.size ≤ w.heap.size + 1 by omega) _).setCell (p := ⟨w.heap.size + 1, 1, none⟩) (show w.heap.size ≤ w.heap.size + 1 by omega) _⟩)
      · intro bf ac wv hfb haf hJ K' hK
        simp [Region.binds] at haf
        obtain ⟨vs, rfl, -, hA, hF⟩ := hJ.open11 (by simp [haf])
        replace hK := Lib.hid hK
        replace hF := Lib.hid hF
        have h18 : bf 10 = true := by simp [haf]
        clear haf
        rw [HLIT.out]
        go_simp
        exact hK.out _ _ (SQ.last (vs := vs) (by rw [HLIT.out]; rfl) h18 hA hF.out)
    · intro bf ac wv hall hJ
      obtain ⟨vs, rfl, e19, -, a7, c7, h7, hR, hC, hB⟩ := hJ.open11 (hall 10 (by decide))
      replace e19 := e19 (hall 11 (by decide))
      have HC9 := Lib.hid hC
      have HB9 := Lib.hid hB
      have HQ7 := Lib.hid h7
      clear hC hB hall h7
      have x0 := hR.c 0 rfl
      have y0 := hR.f 0 (by simp)
      have x1 := hR.c 1 rfl
      have y1 := hR.f 1 (by simp)
      have xz := hR.2.2
      clear hR
      rw [HLIT.out]
      dsimp only
      rw [e19]
      go_wp2
      exact bodyPost_ret (v := .tuple #[.agg #[.int .i64 (nx + 1), .slice a7 (L.length + 1) c7], .int .i64 0]) (by simp [results, Try.results11, go_sem, x0, x1]) rfl ⟨c7, a7, by simp, by simpa using HC9.out, by simpa using HQ7.out, HB9.out⟩
end Go.Proofs.Ytkamkkjijjkfdaa
