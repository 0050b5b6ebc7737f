import Derived.Test.YtnanndmpbecdiaaLi
namespace Go.Proofs.Ytnanndmpbecdiaa
open Go.RowKit

/-- How many of the first k answer. -/
def trN (A : List Bool) : Nat → Nat
  | 0 => 0
  | k + 1 => trN A k + (if A.getD k false then 1 else 0)
theorem trN_yes {A : List Bool} {k : Nat} (h : A.getD k false = true) : trN A (k + 1) = trN A k + 1 := by rw [trN, h]; rfl
theorem trN_no {A : List Bool} {k : Nat} (h : A.getD k false = false) : trN A (k + 1) = trN A k := by rw [trN, h]; rfl
theorem yesN_trN (L : List Vo) (A : List Bool) : ∀ k, (yesN L A k).length = trN A k
  | 0 => rfl
  | k + 1 => by
    have := yesN_trN L A k
    cases h : A.getD k false
    · rw [yesN_no h, trN_no h]; exact this
    · rw [yesN_yes h, trN_yes h, List.length_append, this]; rfl
/-- How many of the first k answer and fit. -/
def sN (p : Vo → Bool) (L : List Vo) (A : List Bool) : Nat → Nat
  | 0 => 0
  | k + 1 => sN p L A k + (if A.getD k false && p (L.getD k zV) then 1 else 0)
theorem cntN_app (p : Vo → Bool) (l m : List Vo) : ∀ k, k ≤ l.length → cntN p (l ++ m) k = cntN p l k
  | 0, _ => rfl
  | k + 1, h => by
    rw [cntN, cntN, cntN_app p l m k (by omega)]
    congr 2
    simp [List.getElem?_append_left (show k < l.length by omega)]
theorem cntN_snoc (p : Vo → Bool) (l : List Vo) (x : Vo) : cntN p (l ++ [x]) (l ++ [x]).length = cntN p l l.length + (if p x then 1 else 0) := by
  rw [List.length_append, show l.length + [x].length = l.length + 1 from rfl, cntN, cntN_app p l [x] l.length (Nat.le_refl _)]
  congr 2
  simp
theorem cnt_sN (p : Vo → Bool) (L : List Vo) (A : List Bool) : ∀ k, cntN p (yesN L A k) (yesN L A k).length = sN p L A k
  | 0 => rfl
  | k + 1 => by
    have ih := cnt_sN p L A k
    cases h : A.getD k false
    · rw [yesN_no h, sN, h, ih]; rfl
    · rw [yesN_yes h, cntN_snoc, ih, sN, h]; rfl
theorem agreed_sN (L : List Vo) (A : List Bool) (h f u now : Int) : agreed L A h f u now = sN (agV h f u now) L A L.length := cnt_sN _ _ _ _
theorem elL_get {L : List Vo} {A : List Bool} {h f u now : Int} {k : Nat} (hk : k < L.length) : (elL L A h f u now).getD k zV = if A.getD k false then votV h f u now (L.getD k zV) else L.getD k zV := by
  unfold elL
  rw [List.getD_eq_getElem?_getD, List.getElem?_map, List.getElem?_range hk]
  simp only [Option.map_some, Option.getD_some, elV, hk, true_and]
theorem ag_f {h f u now : Int} {x : Vo} (hg : agV h f u now x = true) : x.f < f ∧ 1 ≤ f := by
  unfold agV agB lsB at hg
  simp only [Bool.and_eq_true, decide_eq_true_iff] at hg
  exact ⟨hg.1.2, (inr_iff.1 hg.1.1.1.2).1⟩
theorem vot_yes {h f u now : Int} {x : Vo} (ht : tmB now = true) (hg : agV h f u now x = true) : votV h f u now x = ⟨f, h, grU x.h x.u h u⟩ := by
  unfold votV; rw [if_pos (by rw [voB_ag ht]; exact hg)]
theorem vot_no {h f u now : Int} {x : Vo} (ht : tmB now = true) (hg : agV h f u now x = false) : votV h f u now x = x := by
  unfold votV; rw [if_neg (by rw [voB_ag ht]; unfold agV at hg; rw [hg]; simp)]
open Go.RowKit

theorem gr_ge (vh vu h u : Int) : u ≤ grU vh vu h u := by
  unfold grU mxi; split
  · split <;> omega
  · omega
open Go.RowKit

/-- How many of the first k. -/
def cn (p : Nat → Bool) : Nat → Nat
  | 0 => 0
  | k + 1 => cn p k + (if p k then 1 else 0)
theorem cn_mono {p q : Nat → Bool} : ∀ k, (∀ j, j < k → p j = true → q j = true) → cn p k ≤ cn q k
  | 0, _ => by simp [cn]
  | k + 1, h => by
    have ih := cn_mono k (fun j hj => h j (by omega))
    rw [cn, cn]
    have := h k (by omega)
    cases hp : p k
    · simp; omega
    · rw [this hp]; simp; omega
/-- Two majorities meet. -/
theorem cn_meet {p q : Nat → Bool} : ∀ k, k < cn p k + cn q k → ∃ j, j < k ∧ p j = true ∧ q j = true
  | 0, h => by simp [cn] at h
  | k + 1, h => by
    by_cases hb : p k = true ∧ q k = true
    · exact ⟨k, by omega, hb.1, hb.2⟩
    · have : k < cn p k + cn q k := by
        rw [cn, cn] at h
        cases hp : p k <;> cases hq : q k
        · rw [hp, hq] at h; simp at h; omega
        · rw [hp, hq] at h; simp at h; omega
        · rw [hp, hq] at h; simp at h; omega
        · exact absurd ⟨hp, hq⟩ hb
      obtain ⟨j, hj, h1, h2⟩ := cn_meet k this
      exact ⟨j, by omega, h1, h2⟩
theorem trN_cn (A : List Bool) : ∀ k, trN A k = cn (fun j => A.getD j false) k
  | 0 => rfl
  | k + 1 => by rw [trN, cn, trN_cn A k]
theorem sN_cn (p : Vo → Bool) (L : List Vo) (A : List Bool) : ∀ k, sN p L A k = cn (fun j => A.getD j false && p (L.getD j zV)) k
  | 0 => rfl
  | k + 1 => by rw [sN, cn, sN_cn p L A k]
theorem getD_app_l {α : Type} {l m : List α} {j : Nat} {z : α} (h : j < l.length) : (l ++ m).getD j z = l.getD j z := by
  simp [List.getElem?_append_left h]
theorem getD_app_len {α : Type} {l : List α} {x z : α} : (l ++ [x]).getD l.length z = x := by simp
/-- The greatest Fence is one of those, and not less than any. -/
theorem gN_ge (Y : List Vo) : ∀ k, ∀ j, j < k → (Y.getD j zV).f ≤ gN Y k
  | 0, j, h => by omega
  | k + 1, j, h => by
    rw [gN]
    unfold mxi
    by_cases e : j = k
    · subst e; split <;> omega
    · have := gN_ge Y k j (by omega); split <;> omega
theorem gN_le (Y : List Vo) (B : Int) (h0 : (Y.getD 0 zV).f ≤ B) : ∀ k, (∀ j, j < k → (Y.getD j zV).f ≤ B) → gN Y k ≤ B
  | 0, _ => h0
  | k + 1, h => by
    have := gN_le Y B h0 k (fun j hj => h j (by omega))
    have := h k (by omega)
    rw [gN]; unfold mxi; split <;> omega
theorem gN_low (Y : List Vo) (B : Int) (h0 : B ≤ (Y.getD 0 zV).f) : ∀ k, B ≤ gN Y k
  | 0 => h0
  | k + 1 => by have := gN_low Y B h0 k; rw [gN]; unfold mxi; split <;> omega
theorem yes_mem {L : List Vo} {A : List Bool} : ∀ k, ∀ x ∈ yesN L A k, ∃ j, j < k ∧ A.getD j false = true ∧ L.getD j zV = x
  | 0, x, h => by simp [yesN] at h
  | k + 1, x, h => by
    cases hA : A.getD k false
    · rw [yesN_no hA] at h
      obtain ⟨j, hj, h1, h2⟩ := yes_mem k x h
      exact ⟨j, by omega, h1, h2⟩
    · rw [yesN_yes hA, List.mem_append] at h
      rcases h with h | h
      · obtain ⟨j, hj, h1, h2⟩ := yes_mem k x h
        exact ⟨j, by omega, h1, h2⟩
      · simp only [List.mem_singleton] at h
        exact ⟨k, by omega, hA, h.symm⟩
theorem mem_yes {L : List Vo} {A : List Bool} : ∀ k j, j < k → A.getD j false = true → L.getD j zV ∈ yesN L A k
  | 0, j, h, _ => by omega
  | k + 1, j, h, hA => by
    by_cases e : j = k
    · subst e; rw [yesN_yes hA]; simp
    · have := mem_yes (L := L) k j (by omega) hA
      cases hk : A.getD k false
      · rw [yesN_no hk]; exact this
      · rw [yesN_yes hk]; exact List.mem_append_left _ this
theorem getD_mem {l : List Vo} {j : Nat} (h : j < l.length) : l.getD j zV ∈ l := by simp [h]
theorem mem_getD {l : List Vo} {x : Vo} (h : x ∈ l) : ∃ j, j < l.length ∧ l.getD j zV = x := by
  obtain ⟨j, hj, rfl⟩ := List.mem_iff_getElem.1 h
  exact ⟨j, hj, by simp [hj]⟩
/-- A lease that was got. -/
structure Go1 where
  h : Int
  f : Int
  u : Int
  t : Int
def zG : Go1 := ⟨0, 0, 0, 0⟩
instance : Inhabited Go1 := ⟨zG⟩
/-- What holds after k attempts. -/
structure Inv (n k : Nat) (L : List Vo) (G : List Go1) (now : Int) : Prop where
  len : L.length = n
  tim : 0 ≤ now ∧ now ≤ 65535 * k
  vo : ∀ j, j < n → 0 ≤ (L.getD j zV).f ∧ (L.getD j zV).f ≤ k ∧ (L.getD j zV).u ≤ now + 65536
  ok : ∀ i, i < G.length → (0 ≤ (G.getD i zG).h ∧ (G.getD i zG).h < n) ∧ (G.getD i zG).t < (G.getD i zG).u ∧ 1 ≤ (G.getD i zG).f
  fence : ∀ i, i < G.length → n < 2 * cn (fun j => decide ((G.getD i zG).f ≤ (L.getD j zV).f)) n
  hold : ∀ i, i < G.length → (G.getD i zG).u ≤ now ∨ n < 2 * cn (fun j => decide ((L.getD j zV).h = (G.getD i zG).h ∧ (G.getD i zG).u ≤ (L.getD j zV).u)) n
  pair : ∀ i j, i < j → j < G.length → (G.getD i zG).f < (G.getD j zG).f ∧ ((G.getD i zG).h ≠ (G.getD j zG).h → (G.getD i zG).u ≤ (G.getD j zG).t)
theorem Inv.start (n : Nat) : Inv n 0 (List.replicate n zV) [] 0 := by
  refine ⟨by simp, by omega, fun j hj => ?_, fun i hi => absurd hi (by simp), fun i hi => absurd hi (by simp), fun i hi => absurd hi (by simp), fun i j _ hj => absurd hj (by simp)⟩
  simp [hj, zV]
/-- The attempt changes nothing. -/
theorem Inv.wait {n k : Nat} {L : List Vo} {G : List Go1} {now d : Int} (I : Inv n k L G now) (d1 : 0 ≤ d) (d2 : d ≤ 65535) : Inv n (k + 1) L G (now + d) := by
  refine ⟨I.len, by have := I.tim; omega, fun j hj => by have := I.vo j hj; omega, I.ok, I.fence, fun i hi => ?_, I.pair⟩
  rcases I.hold i hi with h | h
  · exact .inl (by omega)
  · exact .inr h
/-- The voters after the vote: a Fence is never less; a hub's time is kept. -/
theorem vot_mono {h f u now : Int} {x : Vo} (ht : tmB now = true) : x.f ≤ (votV h f u now x).f ∧ ((votV h f u now x).f = x.f ∨ (votV h f u now x).f = f) ∧ ((votV h f u now x).u ≤ x.u ∨ (votV h f u now x).u ≤ u) := by
  cases hg : agV h f u now x
  · rw [vot_no ht hg]; exact ⟨by omega, .inl rfl, .inl (by omega)⟩
  · rw [vot_yes ht hg]
    have := (ag_f hg).1
    refine ⟨by show x.f ≤ f; omega, .inr rfl, ?_⟩
    show grU x.h x.u h u ≤ x.u ∨ grU x.h x.u h u ≤ u
    unfold grU mxi; split
    · split <;> omega
    · omega
theorem ag_free {h f u now : Int} {x : Vo} (hg : agV h f u now x = true) : x.u ≤ now ∨ x.h = h := by
  unfold agV agB at hg
  simp only [Bool.and_eq_true, Bool.or_eq_true, decide_eq_true_iff, beq_iff_eq] at hg
  exact hg.2
theorem vot_hold {h f u now gh gu : Int} {x : Vo} (ht : tmB now = true) (hx : x.h = gh ∧ gu ≤ x.u) (hn : now < gu) : (votV h f u now x).h = gh ∧ gu ≤ (votV h f u now x).u := by
  cases hg : agV h f u now x
  · rw [vot_no ht hg]; exact hx
  · rw [vot_yes ht hg]
    have hh : x.h = h := by
      rcases ag_free hg with h1 | h1
      · omega
      · exact h1
    refine ⟨by show h = gh; rw [← hh]; exact hx.1, ?_⟩
    show gu ≤ grU x.h x.u h u
    unfold grU mxi; rw [if_pos hh]; split <;> omega
/-- What an election of a hub does. -/
structure Elc (n : Nat) (L : List Vo) (A : List Bool) (hub now ln F : Int) : Prop where
  tm : tmB now = true
  maj : n < 2 * trN A n
  great : ∀ j, j < n → A.getD j false = true → (L.getD j zV).f < F
theorem Inv.vote1 {n k : Nat} {L : List Vo} {A : List Bool} {G : List Go1} {t hub ln F : Int} (I : Inv n k L G t) (E : Elc n L A hub t ln F) (l1 : 1 ≤ ln) (l2 : ln ≤ 65536) (hF : F ≤ k) : Inv n k (elL L A hub F (t + ln) t) G t := by
  have hlen : (elL L A hub F (t + ln) t).length = n := by simp [elL, I.len]
  have hget : ∀ j, j < n → (elL L A hub F (t + ln) t).getD j zV = if A.getD j false then votV hub F (t + ln) t (L.getD j zV) else L.getD j zV := fun j hj => elL_get (by rw [I.len]; exact hj)
  have hmono : ∀ j, j < n → (L.getD j zV).f ≤ ((elL L A hub F (t + ln) t).getD j zV).f := fun j hj => by
    rw [hget j hj]; split
    · exact (vot_mono E.tm).1
    · omega
  refine ⟨hlen, by have := I.tim; omega, fun j hj => ?_, I.ok, fun i hi => ?_, fun i hi => ?_, I.pair⟩
  · have h1 := I.vo j hj
    have h2 := hmono j hj
    refine ⟨by omega, ?_, ?_⟩
    · rw [hget j hj]; split
      · rcases (vot_mono (x := L.getD j zV) (h := hub) (f := F) (u := t + ln) E.tm).2.1 with e | e <;> rw [e] <;> omega
      · omega
    · rw [hget j hj]; split
      · rcases (vot_mono (x := L.getD j zV) (h := hub) (f := F) (u := t + ln) E.tm).2.2 with e | e <;> omega
      · omega
  · have := I.fence i hi
    have h2 := cn_mono (p := fun j => decide ((G.getD i zG).f ≤ (L.getD j zV).f)) (q := fun j => decide ((G.getD i zG).f ≤ ((elL L A hub F (t + ln) t).getD j zV).f)) n (fun j hj hp => by
      rw [decide_eq_true_iff] at hp ⊢; have := hmono j hj; omega)
    omega
  · by_cases hx : (G.getD i zG).u ≤ t
    · exact .inl hx
    · rcases I.hold i hi with h | h
      · exact absurd h hx
      · refine .inr ?_
        have h2 := cn_mono (p := fun j => decide ((L.getD j zV).h = (G.getD i zG).h ∧ (G.getD i zG).u ≤ (L.getD j zV).u)) (q := fun j => decide (((elL L A hub F (t + ln) t).getD j zV).h = (G.getD i zG).h ∧ (G.getD i zG).u ≤ ((elL L A hub F (t + ln) t).getD j zV).u)) n (fun j hj hp => by
          rw [decide_eq_true_iff] at hp ⊢
          rw [hget j hj]; split
          · exact vot_hold E.tm hp (by omega)
          · exact hp)
        omega
/-- And the lease is got. -/
theorem Inv.got1 {n k : Nat} {L : List Vo} {A : List Bool} {G : List Go1} {t hub ln F : Int} (I : Inv n k L G t) (E : Elc n L A hub t ln F) (l1 : 1 ≤ ln) (l2 : ln ≤ 65536) (hF : F ≤ k) (hh : 0 ≤ hub ∧ hub < n)
    (hag : n < 2 * sN (agV hub F (t + ln) t) L A n) : Inv n k (elL L A hub F (t + ln) t) (G ++ [⟨hub, F, t + ln, t⟩]) t := by
  have J := I.vote1 E l1 l2 hF
  have hget : ∀ j, j < n → (elL L A hub F (t + ln) t).getD j zV = if A.getD j false then votV hub F (t + ln) t (L.getD j zV) else L.getD j zV := fun j hj => elL_get (by rw [I.len]; exact hj)
  rw [sN_cn] at hag
  have hlast : (G ++ [(⟨hub, F, t + ln, t⟩ : Go1)]).length = G.length + 1 := by simp
  have hold : ∀ i, i < G.length → (G ++ [(⟨hub, F, t + ln, t⟩ : Go1)]).getD i zG = G.getD i zG := fun i hi => getD_app_l hi
  have hnew : (G ++ [(⟨hub, F, t + ln, t⟩ : Go1)]).getD G.length zG = ⟨hub, F, t + ln, t⟩ := getD_app_len
  have hyes : ∀ j, j < n → (A.getD j false && agV hub F (t + ln) t (L.getD j zV)) = true → (elL L A hub F (t + ln) t).getD j zV = ⟨F, hub, grU (L.getD j zV).h (L.getD j zV).u hub (t + ln)⟩ := fun j hj hp => by
    rw [Bool.and_eq_true] at hp
    rw [hget j hj, hp.1, if_pos rfl, vot_yes E.tm hp.2]
  have F1 : 1 ≤ F := by
    obtain ⟨j, hj, hp, -⟩ := cn_meet (p := fun j => A.getD j false && agV hub F (t + ln) t (L.getD j zV)) (q := fun j => A.getD j false && agV hub F (t + ln) t (L.getD j zV)) n (by omega)
    rw [Bool.and_eq_true] at hp
    exact (ag_f hp.2).2
  refine ⟨J.len, J.tim, J.vo, fun i hi => ?_, fun i hi => ?_, fun i hi => ?_, fun i j hij hj => ?_⟩
  · by_cases e : i = G.length
    · subst e; rw [hnew]; exact ⟨hh, by show t < t + ln; omega, F1⟩
    · rw [hold i (by omega)]; exact I.ok i (by omega)
  · by_cases e : i = G.length
    · subst e; rw [hnew]
      have h2 := cn_mono (p := fun j => A.getD j false && agV hub F (t + ln) t (L.getD j zV)) (q := fun j => decide (F ≤ ((elL L A hub F (t + ln) t).getD j zV).f)) n (fun j hj hp => by
        rw [decide_eq_true_iff, hyes j hj hp]; show F ≤ F; omega)
      show n < 2 * cn (fun j => decide (F ≤ ((elL L A hub F (t + ln) t).getD j zV).f)) n
      omega
    · rw [hold i (by omega)]; exact J.fence i (by omega)
  · by_cases e : i = G.length
    · subst e; rw [hnew]
      refine .inr ?_
      have h2 := cn_mono (p := fun j => A.getD j false && agV hub F (t + ln) t (L.getD j zV)) (q := fun j => decide (((elL L A hub F (t + ln) t).getD j zV).h = hub ∧ t + ln ≤ ((elL L A hub F (t + ln) t).getD j zV).u)) n (fun j hj hp => by
        rw [decide_eq_true_iff, hyes j hj hp]; exact ⟨rfl, gr_ge _ _ _ _⟩)
      show n < 2 * cn (fun j => decide (((elL L A hub F (t + ln) t).getD j zV).h = hub ∧ t + ln ≤ ((elL L A hub F (t + ln) t).getD j zV).u)) n
      omega
    · rw [hold i (by omega)]; exact J.hold i (by omega)
  · by_cases e : j = G.length
    · subst e; rw [hnew, hold i hij]
      refine ⟨?_, fun hne => ?_⟩
      · have hf := I.fence i hij
        have hm := E.maj
        rw [trN_cn] at hm
        obtain ⟨j, hj, h1, h2⟩ := cn_meet (p := fun j => decide ((G.getD i zG).f ≤ (L.getD j zV).f)) (q := fun j => A.getD j false) n (by omega)
        have h3 := E.great j hj h2
        rw [decide_eq_true_iff] at h1
        show (G.getD i zG).f < F
        omega
      · show (G.getD i zG).u ≤ t
        rcases I.hold i hij with h | h
        · exact h
        · apply Classical.byContradiction
          intro hx
          obtain ⟨j, hj, h1, h2⟩ := cn_meet (p := fun j => decide ((L.getD j zV).h = (G.getD i zG).h ∧ (G.getD i zG).u ≤ (L.getD j zV).u)) (q := fun j => A.getD j false && agV hub F (t + ln) t (L.getD j zV)) n (by omega)
          rw [decide_eq_true_iff] at h1
          rw [Bool.and_eq_true] at h2
          rcases ag_free h2.2 with h3 | h3
          · omega
          · exact hne (by show (G.getD i zG).h = hub; rw [← h1.1, h3])
    · rw [hold i (by omega), hold j (by omega)]; exact I.pair i j hij (by omega)
open Go.RowKit

/-- The block of a slice. -/
def blk : Value → Option Nat
  | .slice (some a) _ _ => some a.block
  | _ => none
def New (w : World) (r : Value) : Prop := ∀ b, blk r = some b → w.heap.size ≤ b
theorem new_nil (w : World) : New w (.slice none 0 0) := fun b h => by cases h
theorem new_at {w : World} {g n c : Nat} (h : w.heap.size ≤ g) : New w (.slice (some ⟨g, 0, none⟩) n c) := fun b hb => by
  simp only [blk, Option.some.injEq] at hb
  omega
def EPost2 (V : List Vo) (h f u er : Int) (w : World) (e : Ending) (w' : World) : Prop := ∃ r, e = .returned (.tuple #[r, .agg #[.int .i64 h, .int .i64 f, .int .i64 u], .int .i64 er]) ∧ VosAt w' r V ∧ New w r ∧ Below w.heap.size w w'
theorem EPost2.mk {V : List Vo} {h f u er : Int} {w w' : World} {r : Value} (hv : VosAt w' r V) (hq : New w r) (hb : Below w.heap.size w w') : EPost2 V h f u er w (.returned (.tuple #[r, .agg #[.int .i64 h, .int .i64 f, .int .i64 u], .int .i64 er])) w' := ⟨r, rfl, hv, hq, hb⟩
set_option maxRecDepth 100000 in
set_option maxHeartbeats 4000000 in
theorem elect_no2 (v va : Value) (L : List Vo) (A : List Bool) (hub now len h f u er : Int) (w : World) (hl : VosAt w v L) (ha : BosAt w va A) (hp : PW L A hub now len h f u er) (he : er ≠ 0) :
    Calls Try.prog 6 #[v, va, .int .i64 hub, .int .i64 now, .int .i64 len] w (EPost2 [] 0 0 0 er w) := by
  have hla := Lib.hid hl
  have haa := Lib.hid ha
  obtain ⟨a, cap, rfl, hm, -⟩ := hl
  obtain ⟨aa, capa, rfl, hma, -⟩ := ha
  unfold maxLen at hm hma
  have HN := Lib.hid ((Cs.new w w.heap.size #[.int .i64 now] 3 rfl).alloc (.cells #[.int .i64 0, .int .i64 0, .int .i64 0] 37))
  have HO := Lib.hid (Cs.new (w.alloc (.cells #[.int .i64 now] 3)) (w.heap.size + 1) #[.int .i64 0, .int .i64 0, .int .i64 0] 37 (by simp))
  have HB := Lib.hid (al2 (w := w) (o1 := .cells #[.int .i64 now] 3) (o2 := .cells #[.int .i64 0, .int .i64 0, .int .i64 0] 37))
  have HP := Lib.hid (propose_any hp (.slice a L.length cap) (.slice aa A.length capa) _ (hla.out.step (al2 (w := w) (o1 := .cells #[.int .i64 now] 3) (o2 := .cells #[.int .i64 0, .int .i64 0, .int .i64 0] 37))) (haa.out.step (al2 (w := w))))
  have q : (er != 0) = true := by simpa using he
  have q2 : (er == 0) = false := by simpa using he
  clear hp he
  go_enter Try.func6, Try.ntmps6
  go_wp2_with fail
  refine HP.out.mono ?_
  rintro e w1 ⟨rfl, b1⟩
  have HOw := Lib.hid (HO.out.step b1)
  have HBw := Lib.hid (keep2 b1 HB.out)
  have HN1 := Lib.hid ((HN.out.step b1).alloc (.cells #[.int .i64 h, .int .i64 f, .int .i64 u] 37))
  have HO1 := Lib.hid ((HO.out.step b1).alloc (.cells #[.int .i64 h, .int .i64 f, .int .i64 u] 37))
  have HL1 := Lib.hid (Cs.new w1 w1.heap.size #[.int .i64 h, .int .i64 f, .int .i64 u] 37 rfl)
  have HB1 := Lib.hid ((keep2 b1 HB.out).alloc (keep2 b1 HB.out).size (.cells #[.int .i64 h, .int .i64 f, .int .i64 u] 37))
  have hz0 : w.heap.size + 1 + 1 ≤ w1.heap.size := by have := b1.size; simpa using this
  clear b1
  have x0 := HOw.out.c 0 rfl
  have x1 := HOw.out.c 1 rfl
  have x2 := HOw.out.c 2 rfl
  have z0 := HOw.out.f 0 (by simp)
  have z1 := HOw.out.f 1 (by simp)
  have z2 := HOw.out.f 2 (by simp)
  have hz := HOw.out.2.2
  have hz1 : w.heap.size + 1 < w1.heap.size := by omega
  go_wp2
  exact bodyPost_ret (v := .tuple #[.slice none 0 0, .agg #[.int .i64 0, .int .i64 0, .int .i64 0], .int .i64 er]) (by simp [results, Try.results6, go_sem, x0, x1, x2, hz1]) rfl (EPost2.mk (vos_nil _) (new_nil _) (by repeat (first | with_reducible exact HBw.out | with_reducible exact Below.refl _ _ | ((with_reducible refine Below.setCell ?_ ?_ _); rotate_left; focus (first | (simp; done) | (simp; omega) | omega)) | ((with_reducible refine Below.alloc ?_ ?_ _); rotate_left; focus (first | (simp; done) | (simp; omega) | omega)) | with_reducible refine Below.trans ?_ (below_drewN' _ _ _) | with_reducible refine Below.trans ?_ (below_drew _ _))))
set_option maxRecDepth 100000 in
set_option maxHeartbeats 8000000 in
theorem elect_few2 (v va : Value) (L : List Vo) (A : List Bool) (hub now len h f u : Int) (w : World) (hl : VosAt w v L) (ha : BosAt w va A) (hp : PW L A hub now len h f u 0) (hg : ¬ L.length < 2 * agreed L A h f u now) :
    Calls Try.prog 6 #[v, va, .int .i64 hub, .int .i64 now, .int .i64 len] w (EPost2 (elL L A h f u now) 0 0 0 22 w) := by
  have hla := Lib.hid hl
  have haa := Lib.hid ha
  obtain ⟨a, cap, rfl, hm, -⟩ := hl
  obtain ⟨aa, capa, rfl, hma, -⟩ := ha
  unfold maxLen at hm hma
  have HN := Lib.hid ((Cs.new w w.heap.size #[.int .i64 now] 3 rfl).alloc (.cells #[.int .i64 0, .int .i64 0, .int .i64 0] 37))
  have HO := Lib.hid (Cs.new (w.alloc (.cells #[.int .i64 now] 3)) (w.heap.size + 1) #[.int .i64 0, .int .i64 0, .int .i64 0] 37 (by simp))
  have HB := Lib.hid (al2 (w := w) (o1 := .cells #[.int .i64 now] 3) (o2 := .cells #[.int .i64 0, .int .i64 0, .int .i64 0] 37))
  have HP := Lib.hid (propose_any hp (.slice a L.length cap) (.slice aa A.length capa) _ (hla.out.step (al2 (w := w) (o1 := .cells #[.int .i64 now] 3) (o2 := .cells #[.int .i64 0, .int .i64 0, .int .i64 0] 37))) (haa.out.step (al2 (w := w))))
  obtain ⟨c0, c1, -, c3, -⟩ := arg_all (pw_ok hp)
  obtain ⟨c2, c4⟩ := inr_iff.1 c0
  obtain ⟨t1, t2⟩ := tm_of c3
  have HAL := Lib.hid (show A.length = L.length by omega)
  have h2 : 2 ≤ L.length := by omega
  have h3 : L.length ≤ 3 := by omega
  have HM := Lib.hid (show decide (L.length < 2 * agreed L A h f u now) = false by simpa using hg)
  clear hp hg c0 c1 c2 c3 c4
  go_enter Try.func6, Try.ntmps6
  go_wp2_with fail
  refine HP.out.mono ?_
  rintro e w1 ⟨rfl, b1⟩
  have HOw := Lib.hid (HO.out.step b1)
  have HBw := Lib.hid (keep2 b1 HB.out)
  have HN1 := Lib.hid ((HN.out.step b1).alloc (.cells #[.int .i64 h, .int .i64 f, .int .i64 u] 37))
  have HO1 := Lib.hid ((HO.out.step b1).alloc (.cells #[.int .i64 h, .int .i64 f, .int .i64 u] 37))
  have HL1 := Lib.hid (Cs.new w1 w1.heap.size #[.int .i64 h, .int .i64 f, .int .i64 u] 37 rfl)
  have HB1 := Lib.hid ((keep2 b1 HB.out).alloc (keep2 b1 HB.out).size (.cells #[.int .i64 h, .int .i64 f, .int .i64 u] 37))
  have hz0 : w.heap.size + 1 + 1 ≤ w1.heap.size := by have := b1.size; simpa using this
  clear b1
  have x0 := HL1.out.c 0 rfl
  have x1 := HL1.out.c 1 rfl
  have x2 := HL1.out.c 2 rfl
  have n0 := HN1.out.c 0 rfl
  have hl0 := HL1.out.2.2
  have hn0 := HN1.out.2.2
  simp only [World.size_alloc] at hl0 hn0
  have hn1 : w.heap.size < w1.heap.size := by omega
  have hn2 : w.heap.size + 1 < w1.heap.size := by omega
  have hla1 := Lib.hid (hla.out.step HB1.out)
  have haa1 := Lib.hid (haa.out.step HB1.out)
  have HVD := Lib.hid (voted_any _ _ L A h f u now _ hla1.out haa1.out HAL.out h2 h3)
  go_wp2_with fail
  refine HVD.out.mono ?_
  rintro e w2 ⟨rfl, hr, b2⟩
  rw [show (w1.alloc (.cells #[.int .i64 h, .int .i64 f, .int .i64 u] 37)).heap.size = w1.heap.size + 1 by simp] at hr ⊢
  have HRV := Lib.hid hr
  clear hr HVD
  have HN2 := Lib.hid (HN1.out.step b2)
  have HO2 := Lib.hid (HO1.out.step b2)
  have HL2 := Lib.hid (HL1.out.step b2)
  have HB2 := Lib.hid (keep2 b2 HB1.out)
  have hla2 := Lib.hid (hla.out.step HB2.out)
  have haa2 := Lib.hid (haa.out.step HB2.out)
  have HAN := Lib.hid (answering_any _ _ L A w2 hla2.out haa2.out HAL.out (by omega))
  clear x0 x1 x2 n0 HN1 HO1 HL1 HB1 hla1 haa1 b2
  clear hl0 hn0 hn1 hn2
  go_wp2_with fail
  refine HAN.out.mono ?_
  rintro e w3 ⟨y, rfl, hy, b3⟩
  have HN3 := Lib.hid (HN2.out.step b3)
  have HO3 := Lib.hid (HO2.out.step b3)
  have HL3 := Lib.hid (HL2.out.step b3)
  have HB3 := Lib.hid (keep2 b3 HB2.out)
  have HRV3 := Lib.hid (HRV.out.step b3)
  have HCN := Lib.hid (count_any y (yesN L A L.length) h f u now w1.heap.size w.heap.size w3 hy (by have := yesN_len L A L.length; omega) t1 t2 HL3.out HN3.out)
  have HY9 := Lib.hid (show agreed L A h f u now ≤ 1000000000 by have := yesN_len L A L.length; have := cntN_le (agV h f u now) (yesN L A L.length) (yesN L A L.length).length; unfold agreed; omega)
  clear b3 hy HN2 HO2 HL2 HB2 hla2 haa2 HAN HRV
  go_wp2_with fail
  refine HCN.out.mono ?_
  rintro e w4 ⟨rfl, b4⟩
  have HO4 := Lib.hid (HO3.out.step b4)
  have HL4 := Lib.hid (HL3.out.step b4)
  have HB4 := Lib.hid (keep2 b4 HB3.out)
  have HRV4 := Lib.hid (HRV3.out.step b4)
  clear b4 HCN HN3 HO3 HL3 HB3 HRV3
  rw [show cntN (agV h f u now) (yesN L A L.length) (yesN L A L.length).length = agreed L A h f u now from rfl]
  go_wp2_with fail
  refine (isMajority_q _ _ _ HM.out HY9.out _).mono ?_
  rintro e w' ⟨rfl, rfl⟩
  clear HM HY9
  have HFIN := Lib.hid (((HRV4.out.other (b := w.heap.size + 1) (by omega) 0 (.int .i64 0)).other (b := w.heap.size + 1) (by omega) 1 (.int .i64 0)).other (b := w.heap.size + 1) (by omega) 2 (.int .i64 0))
  clear HRV4
  have hl0 := HL4.out.2.2
  have ho0 := HO4.out.2.2
  have x0 := HL4.out.c 0 rfl
  have x1 := HL4.out.c 1 rfl
  have x2 := HL4.out.c 2 rfl
  have k0 := HO4.out.c 0 rfl
  have k1 := HO4.out.c 1 rfl
  have k2 := HO4.out.c 2 rfl
  have z0 := HO4.out.f 0 (by simp)
  have z1 := HO4.out.f 1 (by simp)
  have z2 := HO4.out.f 2 (by simp)
  go_wp2
  all_goals exact bodyPost_ret (v := .tuple #[.slice (some ⟨w1.heap.size + 1, 0, none⟩) L.length 3, .agg #[.int .i64 0, .int .i64 0, .int .i64 0], .int .i64 22]) (by simp [results, Try.results6, go_sem, k0, k1, k2]) rfl (EPost2.mk HFIN.out (new_at (by omega)) (by repeat (first | with_reducible exact HB4.out | with_reducible exact Below.refl _ _ | ((with_reducible refine Below.setCell ?_ ?_ _); rotate_left; focus (first | (simp; done) | (simp; omega) | omega)) | ((with_reducible refine Below.alloc ?_ ?_ _); rotate_left; focus (first | (simp; done) | (simp; omega) | omega)) | with_reducible refine Below.trans ?_ (below_drewN' _ _ _) | with_reducible refine Below.trans ?_ (below_drew _ _))))
set_option maxRecDepth 100000 in
set_option maxHeartbeats 8000000 in
theorem elect_ok2 (v va : Value) (L : List Vo) (A : List Bool) (hub now len h f u : Int) (w : World) (hl : VosAt w v L) (ha : BosAt w va A) (hp : PW L A hub now len h f u 0) (hg : L.length < 2 * agreed L A h f u now) :
    Calls Try.prog 6 #[v, va, .int .i64 hub, .int .i64 now, .int .i64 len] w (EPost2 (elL L A h f u now) h f u 0 w) := by
  have hla := Lib.hid hl
  have haa := Lib.hid ha
  obtain ⟨a, cap, rfl, hm, -⟩ := hl
  obtain ⟨aa, capa, rfl, hma, -⟩ := ha
  unfold maxLen at hm hma
  have HN := Lib.hid ((Cs.new w w.heap.size #[.int .i64 now] 3 rfl).alloc (.cells #[.int .i64 0, .int .i64 0, .int .i64 0] 37))
  have HO := Lib.hid (Cs.new (w.alloc (.cells #[.int .i64 now] 3)) (w.heap.size + 1) #[.int .i64 0, .int .i64 0, .int .i64 0] 37 (by simp))
  have HB := Lib.hid (al2 (w := w) (o1 := .cells #[.int .i64 now] 3) (o2 := .cells #[.int .i64 0, .int .i64 0, .int .i64 0] 37))
  have HP := Lib.hid (propose_any hp (.slice a L.length cap) (.slice aa A.length capa) _ (hla.out.step (al2 (w := w) (o1 := .cells #[.int .i64 now] 3) (o2 := .cells #[.int .i64 0, .int .i64 0, .int .i64 0] 37))) (haa.out.step (al2 (w := w))))
  obtain ⟨c0, c1, -, c3, -⟩ := arg_all (pw_ok hp)
  obtain ⟨c2, c4⟩ := inr_iff.1 c0
  obtain ⟨t1, t2⟩ := tm_of c3
  have HAL := Lib.hid (show A.length = L.length by omega)
  have h2 : 2 ≤ L.length := by omega
  have h3 : L.length ≤ 3 := by omega
  have HM := Lib.hid (show decide (L.length < 2 * agreed L A h f u now) = true by simpa using hg)
  clear hp hg c0 c1 c2 c3 c4
  go_enter Try.func6, Try.ntmps6
  go_wp2_with fail
  refine HP.out.mono ?_
  rintro e w1 ⟨rfl, b1⟩
  have HOw := Lib.hid (HO.out.step b1)
  have HBw := Lib.hid (keep2 b1 HB.out)
  have HN1 := Lib.hid ((HN.out.step b1).alloc (.cells #[.int .i64 h, .int .i64 f, .int .i64 u] 37))
  have HO1 := Lib.hid ((HO.out.step b1).alloc (.cells #[.int .i64 h, .int .i64 f, .int .i64 u] 37))
  have HL1 := Lib.hid (Cs.new w1 w1.heap.size #[.int .i64 h, .int .i64 f, .int .i64 u] 37 rfl)
  have HB1 := Lib.hid ((keep2 b1 HB.out).alloc (keep2 b1 HB.out).size (.cells #[.int .i64 h, .int .i64 f, .int .i64 u] 37))
  have hz0 : w.heap.size + 1 + 1 ≤ w1.heap.size := by have := b1.size; simpa using this
  clear b1
  have x0 := HL1.out.c 0 rfl
  have x1 := HL1.out.c 1 rfl
  have x2 := HL1.out.c 2 rfl
  have n0 := HN1.out.c 0 rfl
  have hl0 := HL1.out.2.2
  have hn0 := HN1.out.2.2
  simp only [World.size_alloc] at hl0 hn0
  have hn1 : w.heap.size < w1.heap.size := by omega
  have hn2 : w.heap.size + 1 < w1.heap.size := by omega
  have hla1 := Lib.hid (hla.out.step HB1.out)
  have haa1 := Lib.hid (haa.out.step HB1.out)
  have HVD := Lib.hid (voted_any _ _ L A h f u now _ hla1.out haa1.out HAL.out h2 h3)
  go_wp2_with fail
  refine HVD.out.mono ?_
  rintro e w2 ⟨rfl, hr, b2⟩
  rw [show (w1.alloc (.cells #[.int .i64 h, .int .i64 f, .int .i64 u] 37)).heap.size = w1.heap.size + 1 by simp] at hr ⊢
  have HRV := Lib.hid hr
  clear hr HVD
  have HN2 := Lib.hid (HN1.out.step b2)
  have HO2 := Lib.hid (HO1.out.step b2)
  have HL2 := Lib.hid (HL1.out.step b2)
  have HB2 := Lib.hid (keep2 b2 HB1.out)
  have hla2 := Lib.hid (hla.out.step HB2.out)
  have haa2 := Lib.hid (haa.out.step HB2.out)
  have HAN := Lib.hid (answering_any _ _ L A w2 hla2.out haa2.out HAL.out (by omega))
  clear x0 x1 x2 n0 HN1 HO1 HL1 HB1 hla1 haa1 b2
  clear hl0 hn0 hn1 hn2
  go_wp2_with fail
  refine HAN.out.mono ?_
  rintro e w3 ⟨y, rfl, hy, b3⟩
  have HN3 := Lib.hid (HN2.out.step b3)
  have HO3 := Lib.hid (HO2.out.step b3)
  have HL3 := Lib.hid (HL2.out.step b3)
  have HB3 := Lib.hid (keep2 b3 HB2.out)
  have HRV3 := Lib.hid (HRV.out.step b3)
  have HCN := Lib.hid (count_any y (yesN L A L.length) h f u now w1.heap.size w.heap.size w3 hy (by have := yesN_len L A L.length; omega) t1 t2 HL3.out HN3.out)
  have HY9 := Lib.hid (show agreed L A h f u now ≤ 1000000000 by have := yesN_len L A L.length; have := cntN_le (agV h f u now) (yesN L A L.length) (yesN L A L.length).length; unfold agreed; omega)
  clear b3 hy HN2 HO2 HL2 HB2 hla2 haa2 HAN HRV
  go_wp2_with fail
  refine HCN.out.mono ?_
  rintro e w4 ⟨rfl, b4⟩
  have HO4 := Lib.hid (HO3.out.step b4)
  have HL4 := Lib.hid (HL3.out.step b4)
  have HB4 := Lib.hid (keep2 b4 HB3.out)
  have HRV4 := Lib.hid (HRV3.out.step b4)
  clear b4 HCN HN3 HO3 HL3 HB3 HRV3
  rw [show cntN (agV h f u now) (yesN L A L.length) (yesN L A L.length).length = agreed L A h f u now from rfl]
  go_wp2_with fail
  refine (isMajority_q _ _ _ HM.out HY9.out _).mono ?_
  rintro e w' ⟨rfl, rfl⟩
  clear HM HY9
  have HFIN := Lib.hid (((HRV4.out.other (b := w.heap.size + 1) (by omega) 0 (.int .i64 h)).other (b := w.heap.size + 1) (by omega) 1 (.int .i64 f)).other (b := w.heap.size + 1) (by omega) 2 (.int .i64 u))
  clear HRV4
  have hl0 := HL4.out.2.2
  have ho0 := HO4.out.2.2
  have x0 := HL4.out.c 0 rfl
  have x1 := HL4.out.c 1 rfl
  have x2 := HL4.out.c 2 rfl
  have k0 := HO4.out.c 0 rfl
  have k1 := HO4.out.c 1 rfl
  have k2 := HO4.out.c 2 rfl
  have z0 := HO4.out.f 0 (by simp)
  have z1 := HO4.out.f 1 (by simp)
  have z2 := HO4.out.f 2 (by simp)
  go_wp2_with fail
  go_region
  all_goals go_wp2
  all_goals exact bodyPost_ret (v := .tuple #[.slice (some ⟨w1.heap.size + 1, 0, none⟩) L.length 3, .agg #[.int .i64 h, .int .i64 f, .int .i64 u], .int .i64 0]) (by simp [results, Try.results6, go_sem, k0, k1, k2]) rfl (EPost2.mk HFIN.out (new_at (by omega)) (by repeat (first | with_reducible exact HB4.out | with_reducible exact Below.refl _ _ | ((with_reducible refine Below.setCell ?_ ?_ _); rotate_left; focus (first | (simp; done) | (simp; omega) | omega)) | ((with_reducible refine Below.alloc ?_ ?_ _); rotate_left; focus (first | (simp; done) | (simp; omega) | omega)) | with_reducible refine Below.trans ?_ (below_drewN' _ _ _) | with_reducible refine Below.trans ?_ (below_drew _ _))))
theorem elect_any2 {L : List Vo} {A : List Bool} {hub now len : Int} {V : List Vo} {h f u er : Int} (hp : EW L A hub now len V h f u er) (v va : Value) (w : World) (hl : VosAt w v L) (ha : BosAt w va A) :
    Calls Try.prog 6 #[v, va, .int .i64 hub, .int .i64 now, .int .i64 len] w (EPost2 V h f u er w) := by
  cases hp with
  | no h0 f0 u0 _ h1 h2 => exact elect_no2 v va L A hub now len h0 f0 u0 er w hl ha h1 h2
  | few h f u h1 h2 => exact elect_few2 v va L A hub now len h f u w hl ha h1 h2
  | ok _ _ _ h1 h2 => exact elect_ok2 v va L A hub now len h f u w hl ha h1 h2
/-- One more attempt does not lower the bound of attempts. -/
theorem Inv.vote' {n k : Nat} {L : List Vo} {A : List Bool} {G : List Go1} {t d hub ln F : Int} (I : Inv n k L G t) (E : Elc n L A hub (t + d) ln F) (d1 : 0 ≤ d) (d2 : d ≤ 65535) (l1 : 1 ≤ ln) (l2 : ln ≤ 65536) (hF : F ≤ k + 1) : Inv n (k + 1) (elL L A hub F (t + d + ln) (t + d)) G (t + d) := by
  have J : Inv n (k + 1) (elL L A hub F (t + d + ln) (t + d)) G (t + d) := by
    have K := (I.wait d1 d2).vote1 E l1 l2 (by omega)
    exact K
  exact J
theorem Inv.got' {n k : Nat} {L : List Vo} {A : List Bool} {G : List Go1} {t d hub ln F : Int} (I : Inv n k L G t) (E : Elc n L A hub (t + d) ln F) (d1 : 0 ≤ d) (d2 : d ≤ 65535) (l1 : 1 ≤ ln) (l2 : ln ≤ 65536) (hF : F ≤ k + 1) (hh : 0 ≤ hub ∧ hub < n)
    (hag : n < 2 * sN (agV hub F (t + d + ln) (t + d)) L A n) : Inv n (k + 1) (elL L A hub F (t + d + ln) (t + d)) (G ++ [⟨hub, F, t + d + ln, t + d⟩]) (t + d) :=
  (I.wait d1 d2).got1 E l1 l2 (by omega) hh hag
/-- One attempt, as numbers. -/
inductive Stp (n k : Nat) (L : List Vo) (G : List Go1) (now : Int) (V : List Vo) (h f u er : Int) : Prop
  | none : er = 22 → V = [] → Inv n (k + 1) L G now → Stp n k L G now V h f u er
  | vote : er = 22 → V.length = n → Inv n (k + 1) V G now → Stp n k L G now V h f u er
  | got : er = 0 → V.length = n → Inv n (k + 1) V (G ++ [⟨h, f, u, now⟩]) now → Stp n k L G now V h f u er
theorem step_of {n k : Nat} {L : List Vo} {G : List Go1} {A : List Bool} {now d hub ln : Int} {V : List Vo} {h f u er : Int} (I : Inv n k L G now) (h2 : 2 ≤ n) (h3 : n ≤ 3) (hA : A.length = n) (d1 : 0 ≤ d) (d2 : d ≤ 65535) (hh : 0 ≤ hub ∧ hub < n) (l1 : 1 ≤ ln) (l2 : ln ≤ 65536) (hk : k ≤ 100)
    (hE : EW L A hub (now + d) ln V h f u er) : Stp n k L G (now + d) V h f u er := by
  have hlen := I.len
  have J := I.wait d1 d2
  have htm : tmB (now + d) = true := inr_iff.2 ⟨by have := I.tim; omega, by have := I.tim; omega⟩
  have harg : argB L.length A.length hub (now + d) ln = true := by
    unfold argB
    rw [htm, hA, hlen, inr_iff.2 ⟨show (2 : Int) ≤ n by omega, show (n : Int) ≤ 3 by omega⟩, inr_iff.2 ⟨hh.1, show hub ≤ (n : Int) - 1 by omega⟩, inr_iff.2 ⟨l1, by omega⟩]
    simp
  have hY : ∀ j, j < (yesN L A L.length).length → 0 ≤ ((yesN L A L.length).getD j zV).f ∧ ((yesN L A L.length).getD j zV).f ≤ k := fun j hj => by
    obtain ⟨i, hi, -, e⟩ := yes_mem _ _ (getD_mem hj)
    rw [← e]
    have := I.vo i (by omega)
    omega
  have hpw : ∀ (h f u : Int), PW L A hub (now + d) ln h f u 0 → h = hub ∧ u = now + d + ln ∧ f ≤ k + 1 ∧ Elc n L A hub (now + d) ln f := by
    intro h f u hp
    cases hp with
    | ok _ q1 q2 q3 q4 =>
      have hpos : 0 < (yesN L A L.length).length := by omega
      have g1 := gN_low (yesN L A L.length) 0 (hY 0 hpos).1 (yesN L A L.length).length
      have g2 := gN_le (yesN L A L.length) k (hY 0 hpos).2 (yesN L A L.length).length (fun j hj => (hY j hj).2)
      have hF : f = gN (yesN L A L.length) (yesN L A L.length).length + 1 := by
        rw [← q4]; exact IntWalk.i64_in _ (by omega)
      refine ⟨rfl, rfl, by omega, htm, by rw [← yesN_trN L A, ← hlen]; exact q2, fun j hj hAj => ?_⟩
      obtain ⟨i, hi, e⟩ := mem_getD (mem_yes (L := L) L.length j (by omega) hAj)
      have := gN_ge (yesN L A L.length) (yesN L A L.length).length i hi
      rw [e] at this
      omega
  cases hE with
  | no h0 f0 u0 _ hp he =>
    cases hp with
    | arg q => rw [harg] at q; cases q
    | few q1 q2 => exact .none rfl rfl J
    | lim q1 q2 q3 =>
      have hpos : 0 < (yesN L A L.length).length := by omega
      have g2 := gN_le (yesN L A L.length) k (hY 0 hpos).2 (yesN L A L.length).length (fun j hj => (hY j hj).2)
      omega
    | ok _ => exact absurd rfl he
  | few h1 f1 u1 hp hq =>
    obtain ⟨rfl, rfl, hF, E⟩ := hpw _ _ _ hp
    exact .vote rfl (by simp [elL, hlen]) (by have := I.wait d1 d2; exact Inv.vote' I E d1 d2 l1 l2 hF)
  | ok h1 f1 u1 hp hq =>
    obtain ⟨rfl, rfl, hF, E⟩ := hpw _ _ _ hp
    rw [agreed_sN, hlen] at hq
    exact .got rfl (by simp [elL, hlen]) (Inv.got' I E d1 d2 l1 l2 hF hh hq)
end Go.Proofs.Ytnanndmpbecdiaa
