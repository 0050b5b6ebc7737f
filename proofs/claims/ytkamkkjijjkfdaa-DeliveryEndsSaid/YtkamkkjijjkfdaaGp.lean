/- Delivery, plain facts: what holds of a sender, a receiver and the orders between them. -/
import Derived.Test.YtkamkkjijjkfdaaGb
import Derived.Test.YtkamkkjijjkfdaaDs
import Derived.Test.YtkamkkjijjkfdaaGd
import Derived.Test.YtkamkkjijjkfdaaGs
namespace Go.Proofs.Ytkamkkjijjkfdaa
open Go.RowKit

def key (q : Int) (D : List Od) : Bool := D.any fun x => x.a == q
theorem key_app {q : Int} {D : List Od} {x : Od} : key q (D ++ [x]) = (key q D || (x.a == q)) := by simp [key]
theorem key_mem {q : Int} {D : List Od} : key q D = true ↔ ∃ x ∈ D, x.a = q := by simp [key, List.any_eq_true]
theorem key_no {q : Int} {D : List Od} : key q D = false ↔ ∀ x ∈ D, x.a ≠ q := by simp [key, List.any_eq_false]
def vals (D : List Od) : List Int := D.foldl (fun v x => v.set x.c.toNat x.d) [0, 0, 0, 0]
def lastB (D : List Od) : Int := D.foldl (fun _ x => x.b) 0
theorem vals_app {D : List Od} {x : Od} : vals (D ++ [x]) = (vals D).set x.c.toNat x.d := by simp [vals]
theorem lastB_app {D : List Od} {x : Od} : lastB (D ++ [x]) = x.b := by simp [lastB]
/-- What holds after acts. -/
structure Inv (sm : Bool) (K : Nat) (nx : Int) (P : List Od) (t : Int) (L : List Bool) (f : Int) (V : List Int) (dn : Int) (A D : List Od) : Prop where
  sn : SnP nx P
  an : nx = (A.length : Int)
  ak : A.length ≤ K
  ai : ∀ (i : Nat) (x : Od), A[i]? = some x → x.a = (i : Int) ∧ orB x.a x.b x.c x.d = true ∧ x.c < 4 ∧ (sm = true → x.b = 1)
  pa : ∀ x ∈ P, ∃ i : Nat, A[i]? = some x
  wf : WF t L
  tn : t < nx
  rv : rvB f V dn = true
  vl : V.length = 4
  dl : dn = (D.length : Int)
  dk : D.length ≤ K
  da : ∀ x ∈ D, ∃ i : Nat, A[i]? = some x
  dt : ∀ x ∈ D, x.a ≤ t
  sd : ∀ a : Int, 0 ≤ a → a ≤ t → t - a < 16 → L.getD (t - a).toNat false = key a D
  pd : ∀ x ∈ A, key x.a D = true ∨ x ∈ P
  dc : D.length = (List.range A.length).countP (fun i : Nat => key (i : Int) D)
  vv : V = vals D
  ff : f = lastB D
  sf : sm = true → f ≤ 1
theorem inv0 (sm : Bool) : Inv sm 0 0 [] (-1) (List.replicate 16 false) 0 [0, 0, 0, 0] 0 [] [] where
  sn := ⟨by decide, fun k hk => by simp at hk⟩
  an := rfl
  ak := Nat.le_refl _
  ai := fun i x h => by simp at h
  pa := fun x h => by cases h
  wf := ⟨by decide, by decide, by decide, fun h => by omega, fun j _ => by
    rw [List.getD_eq_getElem?_getD, List.getElem?_replicate]
    split <;> rfl⟩
  tn := by decide
  rv := by decide
  vl := rfl
  dl := rfl
  dk := Nat.le_refl _
  da := fun x h => by cases h
  dt := fun x h => by cases h
  sd := fun a h1 h2 => by omega
  pd := fun x h => by cases h
  dc := rfl
  vv := rfl
  ff := rfl
  sf := fun _ => by decide
theorem Inv.more {sm : Bool} {K : Nat} {nx : Int} {P : List Od} {t : Int} {L : List Bool} {f : Int} {V : List Int} {dn : Int} {A D : List Od} (h : Inv sm K nx P t L f V dn A D) {K' : Nat} (hk : K ≤ K') : Inv sm K' nx P t L f V dn A D :=
  { h with ak := Nat.le_trans h.ak hk, dk := Nat.le_trans h.dk hk }
theorem cnt_flip (p q : Nat → Bool) (k : Nat) (hp : p k = false) (hq : q k = true) (he : ∀ i, i ≠ k → q i = p i) : ∀ n, (List.range n).countP q = (List.range n).countP p + if k < n then 1 else 0
  | 0 => by simp
  | n + 1 => by
    rw [List.range_succ, List.countP_append, List.countP_append, cnt_flip p q k hp hq he n]
    by_cases h : n = k
    · subst h
      simp [hp, hq]
    · have e := he n h
      by_cases h2 : k < n
      · have : k < n + 1 := by omega
        simp [e, h2, this, List.countP_cons, List.countP_nil]; omega
      · have : ¬ k < n + 1 := by omega
        simp [e, h2, this, List.countP_cons, List.countP_nil]
theorem snp_low {nx : Int} {P : List Od} (h : SnP nx P) : ∀ k, k < P.length → nx - 16 ≤ (P.getD k zO).a
  | 0, hk => (h.2 0 hk).2.1
  | k + 1, hk => by
    have h1 := snp_low h k (by omega)
    have h2 := sn_next h hk
    omega
theorem get_mem {P : List Od} {x : Od} (hx : x ∈ P) : ∃ i, i < P.length ∧ P.getD i zO = x := by
  obtain ⟨i, hi⟩ := List.getElem?_of_mem hx
  exact ⟨i, (List.getElem?_eq_some_iff.1 hi).1, by rw [List.getD_eq_getElem?_getD, hi]; rfl⟩
theorem snp_mem {nx : Int} {P : List Od} (h : SnP nx P) {x : Od} (hx : x ∈ P) : nx - 16 ≤ x.a ∧ x.a < nx ∧ x.ok = true := by
  obtain ⟨i, hi, e⟩ := get_mem hx
  have h1 := h.2 i hi
  have h2 := snp_low h i hi
  rw [snA, e] at h1
  rw [e] at h2
  exact ⟨h2, h1.2.2, h1.1⟩
theorem snp_app {nx : Int} {P : List Od} {x : Od} (h : SnP nx P) (hx : x.ok = true) (ha : x.a = nx) (hn : nx ≤ 1000000) (hw : 0 < P.length → nx - 16 < (P.getD 0 zO).a) : SnP (nx + 1) (P ++ [x]) := by
  refine ⟨⟨by have := h.1; omega, by omega⟩, fun k hk => ?_⟩
  rw [List.length_append, List.length_singleton] at hk
  have hg : ∀ j, j < P.length → (P ++ [x]).getD j zO = P.getD j zO := fun j hj => by
    rw [List.getD_eq_getElem?_getD, List.getD_eq_getElem?_getD, List.getElem?_append_left hj]
  have hl : (P ++ [x]).getD P.length zO = x := by rw [List.getD_eq_getElem?_getD]; simp
  unfold snA
  by_cases e : k < P.length
  · obtain ⟨h1, h2, h3⟩ := h.2 k e
    refine ⟨by rw [hg k e]; exact h1, ?_, by rw [hg k e]; omega⟩
    rw [hg k e]
    cases k with
    | zero => have := hw e; show nx + 1 - 16 ≤ _; omega
    | succ k =>
      show ((P ++ [x]).getD k zO).a + 1 ≤ _
      rw [hg k (by omega)]
      exact h2
  · obtain rfl : k = P.length := by omega
    rw [hl]
    refine ⟨hx, ?_, by omega⟩
    cases hk2 : P.length with
    | zero => show nx + 1 - 16 ≤ x.a; omega
    | succ m =>
      show ((P ++ [x]).getD m zO).a + 1 ≤ x.a
      rw [hg m (by omega)]
      have := (h.2 m (by omega)).2.2
      omega
theorem snp_cut {nx : Int} {P : List Od} (h : SnP nx P) {i : Nat} (hi : i < P.length) : SnP nx (P.take i ++ P.drop (i + 1)) := by
  refine ⟨h.1, fun k hk => ?_⟩
  rw [cut_len hi] at hk
  unfold snA
  rw [cut_get hi]
  have hgt : ∀ m, m < P.length → (P.getD m zO).ok = true ∧ (P.getD m zO).a < nx := fun m hm => ⟨(h.2 m hm).1, (h.2 m hm).2.2⟩
  have h1 : ∀ m, m < P.length → (if m < i then P.getD m zO else P.getD (m + 1) zO) = P.getD (if m < i then m else m + 1) zO := fun m _ => by split <;> rfl
  rw [h1 k (by omega)]
  have hm : (if k < i then k else k + 1) < P.length := by split <;> omega
  refine ⟨(hgt _ hm).1, ?_, (hgt _ hm).2⟩
  cases k with
  | zero => exact snp_low h _ hm
  | succ k =>
    show ((P.take i ++ P.drop (i + 1)).getD k zO).a + 1 ≤ _
    rw [cut_get hi, h1 k (by omega)]
    have hlt : (if k < i then k else k + 1) < (if k + 1 < i then k + 1 else k + 1 + 1) := by split <;> split <;> omega
    obtain ⟨d, hd⟩ : ∃ d, (if k + 1 < i then k + 1 else k + 1 + 1) = (if k < i then k else k + 1) + d + 1 := ⟨(if k + 1 < i then k + 1 else k + 1 + 1) - (if k < i then k else k + 1) - 1, by omega⟩
    rw [hd] at hm ⊢
    have := sn_lt h d hm
    omega
theorem snp_cf {nx a : Int} {P : List Od} (h : SnP nx P) : SnP nx (cfL nx a P true) ∧ (∀ x ∈ cfL nx a P true, x ∈ P) ∧ (∀ x ∈ P, x.a ≠ a → x ∈ cfL nx a P true) ∧ (∀ x ∈ cfL nx a P true, x.a ≠ a) := by
  unfold cfL
  cases hf : fdI a P 0 with
  | none =>
    refine ⟨h, fun x hx => hx, fun x hx _ => hx, fun x hx => ?_⟩
    obtain ⟨i, hi, e⟩ := get_mem hx
    have := fdI_none.1 hf i hi
    rw [e] at this
    exact this
  | some i =>
    have hi : i < P.length := by have := (fdI_some.1 hf).2.1; omega
    have he : (P.getD i zO).a = a := by have := (fdI_some.1 hf).2.2.1; simpa using this
    refine ⟨snp_cut h hi, fun x hx => ?_, fun x hx hne => ?_, fun x hx => ?_⟩
    · rcases List.mem_append.1 hx with q | q
      · exact List.mem_of_mem_take q
      · exact List.mem_of_mem_drop q
    · obtain ⟨j, hj, e⟩ := get_mem hx
      have hji : j ≠ i := fun q => hne (by rw [← e, q]; exact he)
      have h2 : ∀ m, m < (P.take i ++ P.drop (i + 1)).length → (P.take i ++ P.drop (i + 1)).getD m zO ∈ (P.take i ++ P.drop (i + 1)) := fun m hm => by
        rw [List.getD_eq_getElem?_getD, List.getElem?_eq_getElem hm]; exact List.getElem_mem hm
      by_cases q : j < i
      · have := h2 j (by rw [cut_len hi]; omega)
        rw [cut_get hi, if_pos q, e] at this
        exact this
      · have := h2 (j - 1) (by rw [cut_len hi]; omega)
        rw [cut_get hi, if_neg (by omega), show j - 1 + 1 = j by omega, e] at this
        exact this
    · have := cut_none h hf
      rw [fdI_none] at this
      obtain ⟨j, hj, e⟩ := get_mem hx
      have := this j hj
      rw [e] at this
      exact this
/-- An order is confirmed. -/
theorem Inv.conf {sm : Bool} {K : Nat} {nx : Int} {P : List Od} {t : Int} {L : List Bool} {f : Int} {V : List Int} {dn : Int} {A D : List Od} (h : Inv sm K nx P t L f V dn A D) {a : Int} (hk : key a D = true) : Inv sm K nx (cfL nx a P true) t L f V dn A D := by
  obtain ⟨h1, h2, h3, -⟩ := snp_cf (a := a) h.sn
  refine { h with sn := h1, pa := fun x hx => h.pa x (h2 x hx), pd := fun x hx => ?_ }
  rcases h.pd x hx with q | q
  · exact .inl q
  · by_cases e : x.a = a
    · rw [e]; exact .inl hk
    · exact .inr (h3 x q e)
/-- An order is sent. -/
theorem Inv.send {sm : Bool} {K : Nat} {nx : Int} {P : List Od} {t : Int} {L : List Bool} {f : Int} {V : List Int} {dn : Int} {A D : List Od} (h : Inv sm K nx P t L f V dn A D) {b c d : Int} (ho : orB 0 b c d = true) (hc : c < 4) (hs : sm = true → b = 1) (hn : nx ≤ 1000000) (hw : 0 < P.length → nx - 16 < (P.getD 0 zO).a) :
    Inv sm (K + 1) (nx + 1) (P ++ [⟨nx, b, c, d⟩]) t L f V dn (A ++ [⟨nx, b, c, d⟩]) D := by
  have hx : orB nx b c d = true := by
    have h1 := orB_iff ho
    have h2 := h.sn.1
    unfold orB
    rw [Bool.and_eq_true, Bool.and_eq_true, Bool.and_eq_true, inr_iff, inr_iff, inr_iff, inr_iff]
    exact ⟨⟨h2.1, hn⟩, h1.2⟩
  have hnk : key nx D = false := by
    rw [key_no]
    intro x hx
    have h1 := h.dt x hx
    have h2 := h.tn
    omega
  have hup : ∀ (i : Nat) (x : Od), A[i]? = some x → (A ++ [⟨nx, b, c, d⟩])[i]? = some x := fun i x hi => by
    rw [List.getElem?_append_left (List.getElem?_eq_some_iff.1 hi).1]; exact hi
  refine { h with sn := snp_app h.sn hx rfl hn hw, an := by rw [List.length_append, List.length_singleton, h.an]; simp, ak := by rw [List.length_append, List.length_singleton]; have := h.ak; omega, ai := fun i x hi => ?_, pa := fun x hx => ?_, tn := by have := h.tn; omega, dk := by have := h.dk; omega, da := fun x hx => ?_, pd := fun x hx => ?_, dc := ?_ }
  · by_cases e : i < A.length
    · rw [List.getElem?_append_left e] at hi
      exact h.ai i x hi
    · rw [List.getElem?_append_right (by omega)] at hi
      obtain ⟨hl, e2⟩ := List.getElem?_eq_some_iff.1 hi
      simp at hl e2
      subst e2
      exact ⟨by show nx = _; rw [h.an]; congr 1; omega, hx, hc, hs⟩
  · rcases List.mem_append.1 hx with q | q
    · obtain ⟨i, hi⟩ := h.pa x q
      exact ⟨i, hup i x hi⟩
    · rw [List.mem_singleton.1 q]
      exact ⟨A.length, by simp⟩
  · obtain ⟨i, hi⟩ := h.da x hx
    exact ⟨i, hup i x hi⟩
  · rcases List.mem_append.1 hx with q | q
    · rcases h.pd x q with r | r
      · exact .inl r
      · exact .inr (List.mem_append_left _ r)
    · exact .inr (List.mem_append_right _ q)
  · rw [List.length_append, List.length_singleton, List.range_succ, List.countP_append, ← h.dc]
    have e : key (A.length : Int) D = false := by rw [← h.an]; exact hnk
    simp [e]
theorem rv_iff {f : Int} {l : List Int} {dn : Int} : rvB f l dn = true ↔ (0 ≤ f ∧ f ≤ 1000000000) ∧ vaB l = true ∧ 0 ≤ dn ∧ dn ≤ 1000001 := by
  unfold rvB
  rw [Bool.and_eq_true, Bool.and_eq_true, inr_iff, inr_iff]
theorem va_set {l : List Int} {k : Nat} {x : Int} (h : vaB l = true) (hx : 0 ≤ x ∧ x ≤ 15) : vaB (l.set k x) = true := by
  unfold vaB at h ⊢
  rw [Bool.and_eq_true] at h ⊢
  refine ⟨by rw [List.length_set]; exact h.1, ?_⟩
  have h2 := h.2
  rw [Bool.not_eq_true', List.any_eq_false] at h2 ⊢
  intro y hy
  rcases List.mem_or_eq_of_mem_set hy with h3 | h3
  · exact h2 y h3
  · subst h3
    unfold ba
    rw [inr_iff.2 hx]
    simp
/-- What the window knows behind a number that was accepted. -/
theorem acc_sd {t : Int} {L : List Bool} {a : Int} (hw : WF t L) (h0 : 0 ≤ a ∧ a ≤ 1000000) (h : t < a ∨ (t - a < 16 ∧ L.getD (t - a).toNat false = false)) {D : List Od} {x : Od} (hx : x.a = a) (hdt : ∀ y ∈ D, y.a ≤ t)
    (hs : ∀ q : Int, 0 ≤ q → q ≤ t → t - q < 16 → L.getD (t - q).toNat false = key q D) :
    (t ≤ accT t L a ∧ a ≤ accT t L a ∧ accT t L a = if t < a then a else t) ∧ ∀ q : Int, 0 ≤ q → q ≤ accT t L a → accT t L a - q < 16 → (accL t L a).getD (accT t L a - q).toNat false = key q (D ++ [x]) := by
  have hT : accT t L a = if t < a then a else t := by unfold accT; rw [if_neg (by omega)]
  refine ⟨⟨by rw [hT]; split <;> omega, by rw [hT]; split <;> omega, hT⟩, fun q q0 q1 q2 => ?_⟩
  rw [key_app, hx]
  by_cases hta : t < a
  · rw [hT, if_pos hta] at q1 q2 ⊢
    have hL : accL t L a = shL L (a - t).toNat := by unfold accL; rw [if_neg (by omega), if_pos hta]
    rw [hL, shL_get _ _ _ (by omega)]
    by_cases e : q = a
    · subst e
      simp
    · have e1 : ((a - q).toNat == 0) = false := by simp; omega
      have e2 : (a == q) = false := by simp; omega
      rw [e1, e2, Bool.or_false, Bool.false_or]
      by_cases hqt : q ≤ t
      · have e3 : decide ((a - t).toNat ≤ (a - q).toNat) = true := by simp; omega
        rw [e3, Bool.true_and, show (a - q).toNat - (a - t).toNat = (t - q).toNat by omega]
        exact hs q q0 hqt (by omega)
      · have e3 : decide ((a - t).toNat ≤ (a - q).toNat) = false := by simp; omega
        rw [e3, Bool.false_and]
        symm
        rw [key_no]
        intro y hy e4
        have := hdt y hy
        omega
  · rcases h with h | ⟨h1, h2⟩
    · omega
    rw [hT, if_neg hta] at q1 q2 ⊢
    have hL : accL t L a = L.set (t - a).toNat true := by unfold accL; rw [if_neg (by omega), if_neg hta, if_neg (by omega), if_neg (by rw [h2]; simp)]
    rw [hL]
    by_cases e : q = a
    · subst e
      rw [List.getD_eq_getElem?_getD, List.getElem?_set_self (by rw [hw.1]; omega)]
      simp
    · have e2 : (a == q) = false := by simp; omega
      rw [e2, Bool.or_false, List.getD_eq_getElem?_getD, List.getElem?_set_ne (by omega), ← List.getD_eq_getElem?_getD]
      exact hs q q0 q1 q2
/-- An order is executed. -/
theorem Inv.did {sm : Bool} {K : Nat} {nx : Int} {P : List Od} {t : Int} {L : List Bool} {f : Int} {V : List Int} {dn : Int} {A D : List Od} (h : Inv sm K nx P t L f V dn A D) {j : Nat} {x : Od} (hj : A[j]? = some x) (hw : t < x.a ∨ (t - x.a < 16 ∧ L.getD (t - x.a).toNat false = false)) (hk : key x.a D = false) (hK : K ≤ 1000000) :
    Inv sm (K + 1) nx P (accT t L x.a) (accL t L x.a) x.b (V.set x.c.toNat x.d) (dn + 1) A (D ++ [x]) := by
  obtain ⟨ha, ho, hc, hs⟩ := h.ai j x hj
  have hb := orB_iff ho
  have hjl : j < A.length := (List.getElem?_eq_some_iff.1 hj).1
  obtain ⟨⟨t1, t2, t3⟩, hsd⟩ := acc_sd (x := x) h.wf hb.1 hw rfl h.dt h.sd
  have han := h.an
  have hrv := rv_iff.1 h.rv
  have hdl := h.dl
  have hdk := h.dk
  have htn := h.tn
  refine { h with ak := by have := h.ak; omega, wf := wf_acc _ h.wf, tn := by rw [t3]; split <;> omega, rv := rv_iff.2 ⟨hb.2.1, va_set hrv.2.1 hb.2.2.2, by omega, by omega⟩, vl := by rw [List.length_set]; exact h.vl, dl := by rw [List.length_append, List.length_singleton]; omega, dk := by rw [List.length_append, List.length_singleton]; omega, da := fun y hy => ?_, dt := fun y hy => ?_, sd := hsd, pd := fun y hy => ?_, dc := ?_, vv := by rw [vals_app, ← h.vv], ff := by rw [lastB_app], sf := fun e => by rw [hs e]; decide }
  · rcases List.mem_append.1 hy with q | q
    · exact h.da y q
    · rw [List.mem_singleton.1 q]; exact ⟨j, hj⟩
  · rcases List.mem_append.1 hy with q | q
    · have := h.dt y q; omega
    · rw [List.mem_singleton.1 q]; exact t2
  · rcases h.pd y hy with q | q
    · exact .inl (by rw [key_app, q]; rfl)
    · exact .inr q
  · have e := cnt_flip (fun i : Nat => key (i : Int) D) (fun i : Nat => key (i : Int) (D ++ [x])) j (by show key (j : Int) D = false; rw [← ha]; exact hk) (by show key (j : Int) (D ++ [x]) = true; rw [key_app, ha]; simp) (fun i hi => by
      show key (i : Int) (D ++ [x]) = key (i : Int) D
      rw [key_app, ha]
      have : ((j : Int) == (i : Int)) = false := by simp; omega
      rw [this, Bool.or_false]) A.length
    rw [List.length_append, List.length_singleton, e, if_pos hjl, h.dc]
/-- What an order that was sent meets. -/
theorem Inv.cls {sm : Bool} {K : Nat} {nx : Int} {P : List Od} {t : Int} {L : List Bool} {f : Int} {V : List Int} {dn : Int} {A D : List Od} (h : Inv sm K nx P t L f V dn A D) {j : Nat} {x : Od} (hj : A[j]? = some x) :
    (RW t L f V dn x.a x.b x.c x.d t L f V dn false 16 ∧ key x.a P = false) ∨ (RW t L f V dn x.a x.b x.c x.d t L f V dn false 23 ∧ x.b < f) ∨ (RW t L f V dn x.a x.b x.c x.d t L f V dn true 0 ∧ key x.a D = true) ∨
    (RW t L f V dn x.a x.b x.c x.d (accT t L x.a) (accL t L x.a) x.b (V.set x.c.toNat x.d) (dn + 1) true 0 ∧ key x.a D = false ∧ f ≤ x.b ∧ (t < x.a ∨ (t - x.a < 16 ∧ L.getD (t - x.a).toNat false = false))) := by
  obtain ⟨ha, ho, hc, hs⟩ := h.ai j x hj
  have hb := orB_iff ho
  have hcl : x.c < V.length := by rw [h.vl]; exact_mod_cast hc
  by_cases h5 : 16 ≤ t - x.a
  · refine .inl ⟨.old ho h.rv hcl h.wf h5, ?_⟩
    rw [key_no]
    intro y hy e
    have h1 := (snp_mem h.sn hy).1
    have h2 := h.tn
    omega
  · by_cases h6 : x.a ≤ t ∧ L.getD (t - x.a).toNat false = true
    · exact .inr (.inr (.inl ⟨.known ho h.rv hcl h.wf h6.1 (by omega) h6.2, by rw [← h.sd x.a hb.1.1 h6.1 (by omega)]; exact h6.2⟩))
    · have h7 : t < x.a ∨ (t - x.a < 16 ∧ L.getD (t - x.a).toNat false = false) := by
        by_cases h8 : t < x.a
        · exact .inl h8
        · refine .inr ⟨by omega, ?_⟩
          cases hz : L.getD (t - x.a).toNat false with
          | false => rfl
          | true => exact absurd ⟨by omega, hz⟩ h6
      by_cases h8 : x.b < f
      · exact .inr (.inl ⟨.low ho h.rv hcl h.wf h7 h8, h8⟩)
      · refine .inr (.inr (.inr ⟨.did ho h.rv hcl h.wf h7 (by omega), ?_, by omega, h7⟩))
        rcases h7 with q | ⟨q1, q2⟩
        · rw [key_no]
          intro y hy e
          have := h.dt y hy
          omega
        · by_cases q : t < x.a
          · rw [key_no]
            intro y hy e
            have := h.dt y hy
            omega
          · rw [← h.sd x.a hb.1.1 (by omega) q1]
            exact q2

/-- What an order's coming leaves. -/
def ArR (base n : Nat) (aa da : Option Addr) (N : Nat) (sm : Bool) (K : Nat) (P A : List Od) (cf : Bool) (x : Od) (w' : World) : Prop :=
  ∃ (nx : Int) (P' : List Od) (t : Int) (L : List Bool) (f : Int) (V : List Int) (dn : Int) (D : List Od), WdQ base n aa da N nx P' t L f V dn A D w' ∧ Inv sm (K + 1) nx P' t L f V dn A D ∧ (∀ y ∈ P', y ∈ P) ∧ (sm = true → cf = true → ∀ y ∈ P', y.a ≠ x.a)
theorem arrive_inv {base n : Nat} {sm : Bool} {K : Nat} {pa ta va aa da : Option Addr} {pc tc vc ac dc : Nat} {nx : Int} {P : List Od} {t : Int} {L : List Bool} {f : Int} {V : List Int} {dn : Int} {A D : List Od} {w : World} (h : WdA base n pa ta va aa da pc tc vc ac dc nx P t L f V dn A D w) (hi : Inv sm K nx P t L f V dn A D) (hK : K ≤ 1000) {j : Nat} {x : Od} (hj : A[j]? = some x) (cf : Bool) :
    Calls Try.prog 22 #[.pointer (some ⟨n, 0, none⟩), .agg #[.int .i64 x.a, .int .i64 x.b, .int .i64 x.c, .int .i64 x.d], .bool cf] w fun e w' => e = .returned (.bool true) ∧ ArR base n aa da w.heap.size sm K P A cf x w' ∧ FB base n da w w' := by
  obtain ⟨pb, hpb⟩ : ∃ pb, (P.any fun y => y.a == x.a) = pb := ⟨_, rfl⟩
  have hpl : P.length ≤ 100000 := by
    have h1 := hi.sn
    have h2 := hi.an
    have h3 := hi.ak
    have hd := h.pp
    cases hP : P.length with
    | zero => omega
    | succ m =>
      have h4 := (h1.2 m (by omega)).2.2
      have h5 : ∀ k, k < P.length → (k : Int) + (nx - 16) ≤ (P.getD k zO).a := by
        intro k
        induction k with
        | zero => intro hk; have := snp_low h1 0 hk; omega
        | succ k ih => intro hk; have h6 := ih (by omega); have h7 := sn_next h1 hk; omega
      have h6 := h5 m (by omega)
      omega
  have hcl := snp_cf (a := x.a) hi.sn
  rcases hi.cls hj with ⟨hr, hk⟩ | ⟨hr, hk⟩ | ⟨hr, hk⟩ | ⟨hr, hk, hb, hw⟩
  · refine (arrive_old (a := x.a) (b := x.b) (c := x.c) (d := x.d) h cf hr hk).mono ?_
    rintro e w' ⟨rfl, h1, h2⟩
    exact ⟨rfl, ⟨_, _, _, _, _, _, _, _, h1, hi.more (by omega), fun y hy => hy, fun _ _ => key_no.1 hk⟩, h2⟩
  · refine (arrive_low (a := x.a) (b := x.b) (c := x.c) (d := x.d) h cf hr hpb hk).mono ?_
    rintro e w' ⟨rfl, h1, h2⟩
    refine ⟨rfl, ⟨_, _, _, _, _, _, _, _, h1, hi.more (by omega), fun y hy => hy, fun hs _ => ?_⟩, h2⟩
    have h3 := (hi.ai j x hj).2.2.2 hs
    have h4 := hi.sf hs
    omega
  · refine (arrive_known (a := x.a) (b := x.b) (c := x.c) (d := x.d) h cf hr hpb hk rfl hi.sn hpl).mono ?_
    rintro e w' ⟨rfl, h1, h2⟩
    cases cf with
    | false => exact ⟨rfl, ⟨_, _, _, _, _, _, _, _, h1, hi.more (by omega), fun y hy => hy, fun _ e => (by cases e)⟩, h2⟩
    | true => exact ⟨rfl, ⟨_, _, _, _, _, _, _, _, h1, (hi.conf hk).more (by omega), hcl.2.1, fun _ _ => hcl.2.2.2⟩, h2⟩
  · have h9 := hi.did hj hw hk (by omega)
    have hkk : key x.a (D ++ [x]) = true := by rw [key_app]; simp
    refine (arrive_did (a := x.a) (b := x.b) (c := x.c) (d := x.d) (D' := D ++ [x]) h cf hr h9.wf.1 hpb hk rfl hi.sn hpl (by have := hi.dk; omega) rfl hb (by have h1 := hi.dl; have h2 := hi.dk; omega)).mono ?_
    rintro e w' ⟨rfl, h1, h2⟩
    cases cf with
    | false => exact ⟨rfl, ⟨_, _, _, _, _, _, _, _, h1, h9, fun y hy => hy, fun _ e => (by cases e)⟩, h2⟩
    | true => exact ⟨rfl, ⟨_, _, _, _, _, _, _, _, h1, h9.conf hkk, hcl.2.1, fun _ _ => hcl.2.2.2⟩, h2⟩
/-- What an act leaves. -/
def StR (base n : Nat) (sm : Bool) (K : Nat) (w' : World) : Prop :=
  ∃ (nx : Int) (P : List Od) (t : Int) (L : List Bool) (f : Int) (V : List Int) (dn : Int) (A D : List Od), WdP base n nx P t L f V dn A D w' ∧ Inv sm K nx P t L f V dn A D
theorem step_inv {base n : Nat} {sm : Bool} {K : Nat} {w : World} (h : StR base n sm K w) (hK : K ≤ 1000) {xd xw xv xl xf : Int} (_ : 0 ≤ xd ∧ xd ≤ 255) (hw : 0 ≤ xw ∧ xw ≤ 255) (hv : 0 ≤ xv ∧ xv ≤ 255) (hl : 0 ≤ xl ∧ xl ≤ 255) (hf : 0 ≤ xf ∧ xf ≤ 255) :
    Calls Try.prog 44 #[.pointer (some ⟨n, 0, none⟩), .agg #[.int .u8 xd, .int .u8 xw, .int .u8 xv, .int .u8 xl, .int .u8 xf], .bool sm] w fun e w' => e = .returned (.bool true) ∧ StR base n sm (K + 1) w' ∧ Below base w w' := by
  obtain ⟨nx, P, t, L, f, V, dn, A, D, hp, hi⟩ := h
  have hp0 := hp
  obtain ⟨pa, ta, va, aa, da, pc, tc, vc, ac, dc, h⟩ := hp
  have han := hi.an
  have hak := hi.ak
  have hpl : P.length ≤ 100000 := by
    have h1 := hi.sn
    cases hP : P.length with
    | zero => omega
    | succ m =>
      have h4 := (h1.2 m (by omega)).2.2
      have h5 : ∀ k, k < P.length → (k : Int) + (nx - 16) ≤ (P.getD k zO).a := by
        intro k
        induction k with
        | zero => intro hk; have := snp_low h1 0 hk; omega
        | succ k ih => intro hk; have h6 := ih (by omega); have h7 := sn_next h1 hk; omega
      have h6 := h5 m (by omega)
      omega
  by_cases hc : xd.tmod 3 = 0 ∨ (¬ xd.tmod 3 = 0 ∧ A = [])
  · obtain ⟨b, hb1, hb2, hb3⟩ : ∃ b : Int, (sm = true → b = 1) ∧ (sm = false → (wrap64 xf).tmod 4 = b) ∧ 0 ≤ b ∧ b ≤ 3 := by
      have e1 : wrap64 xf = xf := IntWalk.wrap64_in _ (by omega)
      cases sm with
      | true => exact ⟨1, fun _ => rfl, fun e => (by cases e), by omega⟩
      | false => exact ⟨_, fun e => (by cases e), fun _ => rfl, by rw [e1, Int.tmod_eq_emod_of_nonneg hf.1]; omega⟩
    have hc1 : 0 ≤ xv.tmod 4 ∧ xv.tmod 4 ≤ 3 := by rw [Int.tmod_eq_emod_of_nonneg hv.1]; omega
    have hd1 : 0 ≤ xl.tmod 16 ∧ xl.tmod 16 ≤ 15 := by rw [Int.tmod_eq_emod_of_nonneg hl.1]; omega
    have ho : orB 0 b (xv.tmod 4) (xl.tmod 16) = true := by
      unfold orB
      rw [Bool.and_eq_true, Bool.and_eq_true, Bool.and_eq_true, inr_iff, inr_iff, inr_iff, inr_iff]
      omega
    by_cases hw1 : 0 < P.length ∧ (P.getD 0 zO).a ≤ nx - 16
    · refine (step_wait h sm hc hb1 hb2 hv hl rfl rfl hi.sn ho (by omega) hpl hw1.1 hw1.2).mono ?_
      rintro e w' ⟨rfl, h1, h2⟩
      exact ⟨rfl, ⟨_, _, _, _, _, _, _, _, _, h1, hi.more (by omega)⟩, h2⟩
    · have hw2 : 0 < P.length → nx - 16 < (P.getD 0 zO).a := fun q => by
        by_cases r : (P.getD 0 zO).a ≤ nx - 16
        · exact absurd ⟨q, r⟩ hw1
        · omega
      refine (step_ok h sm hc hb1 hb2 hv hl rfl rfl hi.sn ho (by omega) hpl hw2 rfl rfl (by omega)).mono ?_
      rintro e w' ⟨rfl, h1, h2⟩
      exact ⟨rfl, ⟨_, _, _, _, _, _, _, _, _, h1, hi.send ho (by omega) hb1 (by omega) hw2⟩, h2⟩
  · have h0 : ¬ xd.tmod 3 = 0 := fun q => hc (.inl q)
    have hA : A ≠ [] := fun q => hc (.inr ⟨h0, q⟩)
    have hAl : 0 < A.length := List.length_pos_iff.2 hA
    have hm : xw.tmod (A.length : Int) = ((xw.tmod (A.length : Int)).toNat : Int) := by
      rw [Int.toNat_of_nonneg]
      exact Int.tmod_nonneg _ hw.1
    have hml : (xw.tmod (A.length : Int)).toNat < A.length := by
      have := Int.tmod_lt_of_pos xw (show (0 : Int) < A.length by omega)
      omega
    obtain ⟨x, hx⟩ : ∃ x, A[(xw.tmod (A.length : Int)).toNat]? = some x := ⟨_, List.getElem?_eq_getElem hml⟩
    refine (step_arr h sm rfl h0 rfl hml hx (IntWalk.wrap64_in _ (by omega)) (IntWalk.i64_in _ (by omega)) hm (R := StR base n sm (K + 1)) fun w1 h1 => ?_).mono fun e w' q => q
    refine (arrive_inv h1 hi hK hx _).mono ?_
    rintro e w' ⟨rfl, ⟨nx', P', t', L', f', V', dn', D', q1, q2, -, -⟩, q3⟩
    exact ⟨rfl, ⟨_, _, _, _, _, _, _, _, _, q1.p, q2⟩, q3.1⟩
end Go.Proofs.Ytkamkkjijjkfdaa
