/- Leases: what holds after any attempts. -/
import Derived.Test.YtelohejnbfefoaaLw
import Derived.Test.YtelohejnbfefoaaLv
namespace Go.Proofs.Ytelohejnbfefoaa
open Go.RowKit

/-- How many of the first k. -/
def cn (p : Nat → Bool) : Nat → Nat
  | 0 => 0
  | k + 1 => cn p k + (if p k then 1 else 0)
theorem cn_le (p : Nat → Bool) : ∀ k, cn p k ≤ k
  | 0 => by simp [cn]
  | k + 1 => by have := cn_le p k; rw [cn]; split <;> omega
theorem cn_mono {p q : Nat → Bool} : ∀ k, (∀ j, j < k → p j = true → q j = true) → cn p k ≤ cn q k
  | 0, _ => by simp [cn]
  | k + 1, h => by
    have ih := cn_mono k (fun j hj => h j (by omega))
    rw [cn, cn]
    have := h k (by omega)
    cases hp : p k
    · simp; omega
    · rw [this hp]; simp; omega
/-- Two majorities meet. -/
theorem cn_meet {p q : Nat → Bool} : ∀ k, k < cn p k + cn q k → ∃ j, j < k ∧ p j = true ∧ q j = true
  | 0, h => by simp [cn] at h
  | k + 1, h => by
    by_cases hb : p k = true ∧ q k = true
    · exact ⟨k, by omega, hb.1, hb.2⟩
    · have : k < cn p k + cn q k := by
        rw [cn, cn] at h
        cases hp : p k <;> cases hq : q k
        · rw [hp, hq] at h; simp at h; omega
        · rw [hp, hq] at h; simp at h; omega
        · rw [hp, hq] at h; simp at h; omega
        · exact absurd ⟨hp, hq⟩ hb
      obtain ⟨j, hj, h1, h2⟩ := cn_meet k this
      exact ⟨j, by omega, h1, h2⟩
theorem trN_cn (A : List Bool) : ∀ k, trN A k = cn (fun j => A.getD j false) k
  | 0 => rfl
  | k + 1 => by rw [trN, cn, trN_cn A k]
theorem sN_cn (p : Vo → Bool) (L : List Vo) (A : List Bool) : ∀ k, sN p L A k = cn (fun j => A.getD j false && p (L.getD j zV)) k
  | 0 => rfl
  | k + 1 => by rw [sN, cn, sN_cn p L A k]
theorem getD_app_l {α : Type} {l m : List α} {j : Nat} {z : α} (h : j < l.length) : (l ++ m).getD j z = l.getD j z := by
  simp [List.getElem?_append_left h]
theorem getD_app_len {α : Type} {l : List α} {x z : α} : (l ++ [x]).getD l.length z = x := by simp
/-- The greatest Fence is one of those, and not less than any. -/
theorem gN_ge (Y : List Vo) : ∀ k, ∀ j, j < k → (Y.getD j zV).f ≤ gN Y k
  | 0, j, h => by omega
  | k + 1, j, h => by
    rw [gN]
    unfold mxi
    by_cases e : j = k
    · subst e; split <;> omega
    · have := gN_ge Y k j (by omega); split <;> omega
theorem gN_le (Y : List Vo) (B : Int) (h0 : (Y.getD 0 zV).f ≤ B) : ∀ k, (∀ j, j < k → (Y.getD j zV).f ≤ B) → gN Y k ≤ B
  | 0, _ => h0
  | k + 1, h => by
    have := gN_le Y B h0 k (fun j hj => h j (by omega))
    have := h k (by omega)
    rw [gN]; unfold mxi; split <;> omega
theorem gN_low (Y : List Vo) (B : Int) (h0 : B ≤ (Y.getD 0 zV).f) : ∀ k, B ≤ gN Y k
  | 0 => h0
  | k + 1 => by have := gN_low Y B h0 k; rw [gN]; unfold mxi; split <;> omega
theorem yes_mem {L : List Vo} {A : List Bool} : ∀ k, ∀ x ∈ yesN L A k, ∃ j, j < k ∧ A.getD j false = true ∧ L.getD j zV = x
  | 0, x, h => by simp [yesN] at h
  | k + 1, x, h => by
    cases hA : A.getD k false
    · rw [yesN_no hA] at h
      obtain ⟨j, hj, h1, h2⟩ := yes_mem k x h
      exact ⟨j, by omega, h1, h2⟩
    · rw [yesN_yes hA, List.mem_append] at h
      rcases h with h | h
      · obtain ⟨j, hj, h1, h2⟩ := yes_mem k x h
        exact ⟨j, by omega, h1, h2⟩
      · simp only [List.mem_singleton] at h
        exact ⟨k, by omega, hA, h.symm⟩
theorem mem_yes {L : List Vo} {A : List Bool} : ∀ k j, j < k → A.getD j false = true → L.getD j zV ∈ yesN L A k
  | 0, j, h, _ => by omega
  | k + 1, j, h, hA => by
    by_cases e : j = k
    · subst e; rw [yesN_yes hA]; simp
    · have := mem_yes (L := L) k j (by omega) hA
      cases hk : A.getD k false
      · rw [yesN_no hk]; exact this
      · rw [yesN_yes hk]; exact List.mem_append_left _ this
theorem getD_mem {l : List Vo} {j : Nat} (h : j < l.length) : l.getD j zV ∈ l := by simp [h]
theorem mem_getD {l : List Vo} {x : Vo} (h : x ∈ l) : ∃ j, j < l.length ∧ l.getD j zV = x := by
  obtain ⟨j, hj, rfl⟩ := List.mem_iff_getElem.1 h
  exact ⟨j, hj, by simp [hj]⟩
/-- A lease that was got. -/
structure Go1 where
  h : Int
  f : Int
  u : Int
  t : Int
def zG : Go1 := ⟨0, 0, 0, 0⟩
instance : Inhabited Go1 := ⟨zG⟩
/-- What holds after k attempts. -/
structure Inv (n k : Nat) (L : List Vo) (G : List Go1) (now : Int) : Prop where
  len : L.length = n
  tim : 0 ≤ now ∧ now ≤ 65535 * k
  vo : ∀ j, j < n → 0 ≤ (L.getD j zV).f ∧ (L.getD j zV).f ≤ k ∧ (L.getD j zV).u ≤ now + 65536
  ok : ∀ i, i < G.length → (0 ≤ (G.getD i zG).h ∧ (G.getD i zG).h < n) ∧ (G.getD i zG).t < (G.getD i zG).u ∧ 1 ≤ (G.getD i zG).f
  fence : ∀ i, i < G.length → n < 2 * cn (fun j => decide ((G.getD i zG).f ≤ (L.getD j zV).f)) n
  hold : ∀ i, i < G.length → (G.getD i zG).u ≤ now ∨ n < 2 * cn (fun j => decide ((L.getD j zV).h = (G.getD i zG).h ∧ (G.getD i zG).u ≤ (L.getD j zV).u)) n
  pair : ∀ i j, i < j → j < G.length → (G.getD i zG).f < (G.getD j zG).f ∧ ((G.getD i zG).h ≠ (G.getD j zG).h → (G.getD i zG).u ≤ (G.getD j zG).t)
theorem Inv.start (n : Nat) : Inv n 0 (List.replicate n zV) [] 0 := by
  refine ⟨by simp, by omega, fun j hj => ?_, fun i hi => absurd hi (by simp), fun i hi => absurd hi (by simp), fun i hi => absurd hi (by simp), fun i j _ hj => absurd hj (by simp)⟩
  simp [hj, zV]
/-- The attempt changes nothing. -/
theorem Inv.wait {n k : Nat} {L : List Vo} {G : List Go1} {now d : Int} (I : Inv n k L G now) (d1 : 0 ≤ d) (d2 : d ≤ 65535) : Inv n (k + 1) L G (now + d) := by
  refine ⟨I.len, by have := I.tim; omega, fun j hj => by have := I.vo j hj; omega, I.ok, I.fence, fun i hi => ?_, I.pair⟩
  rcases I.hold i hi with h | h
  · exact .inl (by omega)
  · exact .inr h
/-- The voters after the vote: a Fence is never less; a hub's time is kept. -/
theorem vot_mono {h f u now : Int} {x : Vo} (ht : tmB now = true) : x.f ≤ (votV h f u now x).f ∧ ((votV h f u now x).f = x.f ∨ (votV h f u now x).f = f) ∧ ((votV h f u now x).u ≤ x.u ∨ (votV h f u now x).u ≤ u) := by
  cases hg : agV h f u now x
  · rw [vot_no ht hg]; exact ⟨by omega, .inl rfl, .inl (by omega)⟩
  · rw [vot_yes ht hg]
    have := (ag_f hg).1
    refine ⟨by show x.f ≤ f; omega, .inr rfl, ?_⟩
    show grU x.h x.u h u ≤ x.u ∨ grU x.h x.u h u ≤ u
    unfold grU mxi; split
    · split <;> omega
    · omega
theorem ag_free {h f u now : Int} {x : Vo} (hg : agV h f u now x = true) : x.u ≤ now ∨ x.h = h := by
  unfold agV agB at hg
  simp only [Bool.and_eq_true, Bool.or_eq_true, decide_eq_true_iff, beq_iff_eq] at hg
  exact hg.2
theorem vot_hold {h f u now gh gu : Int} {x : Vo} (ht : tmB now = true) (hx : x.h = gh ∧ gu ≤ x.u) (hn : now < gu) : (votV h f u now x).h = gh ∧ gu ≤ (votV h f u now x).u := by
  cases hg : agV h f u now x
  · rw [vot_no ht hg]; exact hx
  · rw [vot_yes ht hg]
    have hh : x.h = h := by
      rcases ag_free hg with h1 | h1
      · omega
      · exact h1
    refine ⟨by show h = gh; rw [← hh]; exact hx.1, ?_⟩
    show gu ≤ grU x.h x.u h u
    unfold grU mxi; rw [if_pos hh]; split <;> omega
/-- What an election of a hub does. -/
structure Elc (n : Nat) (L : List Vo) (A : List Bool) (hub now ln F : Int) : Prop where
  tm : tmB now = true
  maj : n < 2 * trN A n
  great : ∀ j, j < n → A.getD j false = true → (L.getD j zV).f < F
theorem Inv.vote1 {n k : Nat} {L : List Vo} {A : List Bool} {G : List Go1} {t hub ln F : Int} (I : Inv n k L G t) (E : Elc n L A hub t ln F) (l1 : 1 ≤ ln) (l2 : ln ≤ 65536) (hF : F ≤ k) : Inv n k (elL L A hub F (t + ln) t) G t := by
  have hlen : (elL L A hub F (t + ln) t).length = n := by simp [elL, I.len]
  have hget : ∀ j, j < n → (elL L A hub F (t + ln) t).getD j zV = if A.getD j false then votV hub F (t + ln) t (L.getD j zV) else L.getD j zV := fun j hj => elL_get (by rw [I.len]; exact hj)
  have hmono : ∀ j, j < n → (L.getD j zV).f ≤ ((elL L A hub F (t + ln) t).getD j zV).f := fun j hj => by
    rw [hget j hj]; split
    · exact (vot_mono E.tm).1
    · omega
  refine ⟨hlen, by have := I.tim; omega, fun j hj => ?_, I.ok, fun i hi => ?_, fun i hi => ?_, I.pair⟩
  · have h1 := I.vo j hj
    have h2 := hmono j hj
    refine ⟨by omega, ?_, ?_⟩
    · rw [hget j hj]; split
      · rcases (vot_mono (x := L.getD j zV) (h := hub) (f := F) (u := t + ln) E.tm).2.1 with e | e <;> rw [e] <;> omega
      · omega
    · rw [hget j hj]; split
      · rcases (vot_mono (x := L.getD j zV) (h := hub) (f := F) (u := t + ln) E.tm).2.2 with e | e <;> omega
      · omega
  · have := I.fence i hi
    have h2 := cn_mono (p := fun j => decide ((G.getD i zG).f ≤ (L.getD j zV).f)) (q := fun j => decide ((G.getD i zG).f ≤ ((elL L A hub F (t + ln) t).getD j zV).f)) n (fun j hj hp => by
      rw [decide_eq_true_iff] at hp ⊢; have := hmono j hj; omega)
    omega
  · by_cases hx : (G.getD i zG).u ≤ t
    · exact .inl hx
    · rcases I.hold i hi with h | h
      · exact absurd h hx
      · refine .inr ?_
        have h2 := cn_mono (p := fun j => decide ((L.getD j zV).h = (G.getD i zG).h ∧ (G.getD i zG).u ≤ (L.getD j zV).u)) (q := fun j => decide (((elL L A hub F (t + ln) t).getD j zV).h = (G.getD i zG).h ∧ (G.getD i zG).u ≤ ((elL L A hub F (t + ln) t).getD j zV).u)) n (fun j hj hp => by
          rw [decide_eq_true_iff] at hp ⊢
          rw [hget j hj]; split
          · exact vot_hold E.tm hp (by omega)
          · exact hp)
        omega
/-- And the lease is got. -/
theorem Inv.got1 {n k : Nat} {L : List Vo} {A : List Bool} {G : List Go1} {t hub ln F : Int} (I : Inv n k L G t) (E : Elc n L A hub t ln F) (l1 : 1 ≤ ln) (l2 : ln ≤ 65536) (hF : F ≤ k) (hh : 0 ≤ hub ∧ hub < n)
    (hag : n < 2 * sN (agV hub F (t + ln) t) L A n) : Inv n k (elL L A hub F (t + ln) t) (G ++ [⟨hub, F, t + ln, t⟩]) t := by
  have J := I.vote1 E l1 l2 hF
  have hget : ∀ j, j < n → (elL L A hub F (t + ln) t).getD j zV = if A.getD j false then votV hub F (t + ln) t (L.getD j zV) else L.getD j zV := fun j hj => elL_get (by rw [I.len]; exact hj)
  rw [sN_cn] at hag
  have hlast : (G ++ [(⟨hub, F, t + ln, t⟩ : Go1)]).length = G.length + 1 := by simp
  have hold : ∀ i, i < G.length → (G ++ [(⟨hub, F, t + ln, t⟩ : Go1)]).getD i zG = G.getD i zG := fun i hi => getD_app_l hi
  have hnew : (G ++ [(⟨hub, F, t + ln, t⟩ : Go1)]).getD G.length zG = ⟨hub, F, t + ln, t⟩ := getD_app_len
  have hyes : ∀ j, j < n → (A.getD j false && agV hub F (t + ln) t (L.getD j zV)) = true → (elL L A hub F (t + ln) t).getD j zV = ⟨F, hub, grU (L.getD j zV).h (L.getD j zV).u hub (t + ln)⟩ := fun j hj hp => by
    rw [Bool.and_eq_true] at hp
    rw [hget j hj, hp.1, if_pos rfl, vot_yes E.tm hp.2]
  have F1 : 1 ≤ F := by
    obtain ⟨j, hj, hp, -⟩ := cn_meet (p := fun j => A.getD j false && agV hub F (t + ln) t (L.getD j zV)) (q := fun j => A.getD j false && agV hub F (t + ln) t (L.getD j zV)) n (by omega)
    rw [Bool.and_eq_true] at hp
    exact (ag_f hp.2).2
  refine ⟨J.len, J.tim, J.vo, fun i hi => ?_, fun i hi => ?_, fun i hi => ?_, fun i j hij hj => ?_⟩
  · by_cases e : i = G.length
    · subst e; rw [hnew]; exact ⟨hh, by show t < t + ln; omega, F1⟩
    · rw [hold i (by omega)]; exact I.ok i (by omega)
  · by_cases e : i = G.length
    · subst e; rw [hnew]
      have h2 := cn_mono (p := fun j => A.getD j false && agV hub F (t + ln) t (L.getD j zV)) (q := fun j => decide (F ≤ ((elL L A hub F (t + ln) t).getD j zV).f)) n (fun j hj hp => by
        rw [decide_eq_true_iff, hyes j hj hp]; show F ≤ F; omega)
      show n < 2 * cn (fun j => decide (F ≤ ((elL L A hub F (t + ln) t).getD j zV).f)) n
      omega
    · rw [hold i (by omega)]; exact J.fence i (by omega)
  · by_cases e : i = G.length
    · subst e; rw [hnew]
      refine .inr ?_
      have h2 := cn_mono (p := fun j => A.getD j false && agV hub F (t + ln) t (L.getD j zV)) (q := fun j => decide (((elL L A hub F (t + ln) t).getD j zV).h = hub ∧ t + ln ≤ ((elL L A hub F (t + ln) t).getD j zV).u)) n (fun j hj hp => by
        rw [decide_eq_true_iff, hyes j hj hp]; exact ⟨rfl, gr_ge _ _ _ _⟩)
      show n < 2 * cn (fun j => decide (((elL L A hub F (t + ln) t).getD j zV).h = hub ∧ t + ln ≤ ((elL L A hub F (t + ln) t).getD j zV).u)) n
      omega
    · rw [hold i (by omega)]; exact J.hold i (by omega)
  · by_cases e : j = G.length
    · subst e; rw [hnew, hold i hij]
      refine ⟨?_, fun hne => ?_⟩
      · have hf := I.fence i hij
        have hm := E.maj
        rw [trN_cn] at hm
        obtain ⟨j, hj, h1, h2⟩ := cn_meet (p := fun j => decide ((G.getD i zG).f ≤ (L.getD j zV).f)) (q := fun j => A.getD j false) n (by omega)
        have h3 := E.great j hj h2
        rw [decide_eq_true_iff] at h1
        show (G.getD i zG).f < F
        omega
      · show (G.getD i zG).u ≤ t
        rcases I.hold i hij with h | h
        · exact h
        · apply Classical.byContradiction
          intro hx
          obtain ⟨j, hj, h1, h2⟩ := cn_meet (p := fun j => decide ((L.getD j zV).h = (G.getD i zG).h ∧ (G.getD i zG).u ≤ (L.getD j zV).u)) (q := fun j => A.getD j false && agV hub F (t + ln) t (L.getD j zV)) n (by omega)
          rw [decide_eq_true_iff] at h1
          rw [Bool.and_eq_true] at h2
          rcases ag_free h2.2 with h3 | h3
          · omega
          · exact hne (by show (G.getD i zG).h = hub; rw [← h1.1, h3])
    · rw [hold i (by omega), hold j (by omega)]; exact I.pair i j hij (by omega)
end Go.Proofs.Ytelohejnbfefoaa
