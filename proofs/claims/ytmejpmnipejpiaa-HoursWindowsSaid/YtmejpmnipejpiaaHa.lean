/- Quiet hours: plain facts on windows, and on the changes of a sequence of truth values. -/
namespace Go.Proofs.Ytmejpmnipejpiaa

/-- A window covers a minute of the day. -/
def cov (f t x : Int) : Bool := if f < t then decide (f ≤ x) && decide (x < t) else decide (f ≤ x) || decide (x < t)
def Qx (l : List (Int × Int)) (x : Int) : Bool := l.any fun p => cov p.1 p.2 x
def Qm (l : List (Int × Int)) (m : Int) : Bool := Qx l (m % 1440)
def okW (p : Int × Int) : Bool := decide (0 ≤ p.1) && decide (p.1 ≤ 1439) && (decide (0 ≤ p.2) && decide (p.2 ≤ 1439)) && !(p.1 == p.2)
def okL (l : List (Int × Int)) : Bool := decide (l.length ≤ 8) && l.all okW
def inR (m : Int) : Bool := decide (-1000000000 ≤ m) && decide (m ≤ 1000000000)
theorem inR_of {m : Int} (h1 : -1000000000 ≤ m) (h2 : m ≤ 1000000000) : inR m = true := by simp [inR, h1, h2]
theorem inR_iff {m : Int} : inR m = true ↔ -1000000000 ≤ m ∧ m ≤ 1000000000 := by simp [inR]
def qui (l : List (Int × Int)) (m : Int) : Bool := okL l && inR m && Qm l m
/-- There is a change at the i-th minute after m. -/
def chg (g : Int → Bool) (m : Int) (i : Nat) : Bool := !(g (m + i + 1) == g (m + i))
/-- The first change among n minutes after m: its index. -/
def nxt (g : Int → Bool) (m : Int) : Nat → Option Nat
  | 0 => none
  | n + 1 => match nxt g m n with
    | some i => some i
    | none => if chg g m n then some n else none
theorem nxt_none {g : Int → Bool} {m : Int} : ∀ {n : Nat}, nxt g m n = none → ∀ j, j < n → chg g m j = false
  | n + 1, h, j, hj => by
    unfold nxt at h
    split at h
    · cases h
    · rename_i hk
      split at h
      · cases h
      · rename_i hc
        by_cases e : j = n
        · subst e; simpa using hc
        · exact nxt_none hk j (by omega)
theorem nxt_some {g : Int → Bool} {m : Int} : ∀ {n i : Nat}, nxt g m n = some i → i < n ∧ chg g m i = true ∧ ∀ j, j < i → chg g m j = false
  | n + 1, i, h => by
    unfold nxt at h
    split at h
    · rename_i k hk
      cases h
      have := nxt_some hk
      exact ⟨by omega, this.2⟩
    · rename_i hk
      split at h
      · rename_i hc
        cases h
        refine ⟨by omega, hc, ?_⟩
        exact nxt_none hk
      · cases h
theorem nxt_mk_none {g : Int → Bool} {m : Int} : ∀ {n : Nat}, (∀ j, j < n → chg g m j = false) → nxt g m n = none
  | 0, _ => rfl
  | n + 1, h => by
    unfold nxt
    rw [nxt_mk_none (n := n) (fun j hj => h j (by omega))]
    simp [h n (by omega)]
theorem nxt_mk {g : Int → Bool} {m : Int} {i : Nat} (hc : chg g m i = true) (hb : ∀ j, j < i → chg g m j = false) : ∀ {n : Nat}, i < n → nxt g m n = some i
  | n + 1, h => by
    unfold nxt
    by_cases e : i < n
    · rw [nxt_mk hc hb e]
    · have e2 : i = n := by omega
      subst e2
      rw [nxt_mk_none hb]
      simp [hc]
theorem chg_false {g : Int → Bool} {m : Int} {i : Nat} (h : chg g m i = false) : g (m + i + 1) = g (m + i) := by simpa [chg] using h
theorem chg_true {g : Int → Bool} {m : Int} {i : Nat} (h : chg g m i = true) : g (m + i + 1) ≠ g (m + i) := by simpa [chg] using h
/-- No change: all alike. -/
theorem same_till {g : Int → Bool} {m : Int} : ∀ {n : Nat}, (∀ j, j < n → chg g m j = false) → g (m + n) = g m
  | 0, _ => by simp
  | n + 1, h => by
    have h1 := same_till (n := n) (fun j hj => h j (by omega))
    have h2 := chg_false (h n (by omega))
    rw [← h1, ← h2]
    congr 1
    omega
/-- The changes among n minutes after m. -/
def chs (g : Int → Bool) (m : Int) : Nat → List (Int × Bool)
  | 0 => []
  | n + 1 => chs g m n ++ if chg g m n then [(m + n + 1, g (m + n + 1))] else []
theorem chs_len (g : Int → Bool) (m : Int) : ∀ n, (chs g m n).length ≤ n
  | 0 => by simp [chs]
  | n + 1 => by
    have := chs_len g m n
    unfold chs
    split <;> simp <;> omega
theorem chs_yes {g : Int → Bool} {m : Int} {n : Nat} (h : chg g m n = true) : chs g m (n + 1) = chs g m n ++ [(m + n + 1, g (m + n + 1))] := by rw [chs, if_pos h]
theorem chs_no {g : Int → Bool} {m : Int} {n : Nat} (h : chg g m n = false) : chs g m (n + 1) = chs g m n := by rw [chs, if_neg (by simp [h]), List.append_nil]
/-- The changes of two parts. -/
theorem chs_add (g : Int → Bool) (m : Int) (a : Nat) : ∀ b, chs g m (a + b) = chs g m a ++ chs g (m + a) b
  | 0 => by simp [chs]
  | b + 1 => by
    rw [← Nat.add_assoc]
    have e : chg g m (a + b) = chg g (m + a) b := by unfold chg; simp only [Int.natCast_add, Int.add_assoc]
    cases h : chg g (m + a) b
    · rw [chs_no (e.trans h), chs_no h, chs_add g m a b]
    · rw [chs_yes (e.trans h), chs_yes h, chs_add g m a b, List.append_assoc]
      simp only [Int.natCast_add, Int.add_assoc]
theorem chs_mem {g : Int → Bool} {m : Int} : ∀ {n : Nat} {p : Int × Bool}, p ∈ chs g m n → m < p.1 ∧ p.1 ≤ m + n ∧ p.2 = g p.1
  | n + 1, p, h => by
    unfold chs at h
    rcases List.mem_append.1 h with h | h
    · obtain ⟨h1, h2, h3⟩ := chs_mem h
      exact ⟨h1, by omega, h3⟩
    · split at h
      · simp only [List.mem_singleton] at h
        subst h
        refine ⟨by simp; omega, by simp; omega, rfl⟩
      · cases h
/-- How many changes: even exactly if both ends are alike. -/
theorem chs_even (g : Int → Bool) (m : Int) : ∀ n, decide ((chs g m n).length % 2 = 0) = (g m == g (m + n))
  | 0 => by simp [chs]
  | n + 1 => by
    have ih := chs_even g m n
    have e : m + ((n + 1 : Nat) : Int) = m + n + 1 := by omega
    rw [e]
    cases h : chg g m n
    · rw [chs_no h, ih, chg_false h]
    · have hc := chg_true h
      rw [chs_yes h, List.length_append, List.length_singleton]
      have e2 : decide (((chs g m n).length + 1) % 2 = 0) = !decide ((chs g m n).length % 2 = 0) := by
        rw [Bool.eq_iff_iff]; simp; omega
      rw [e2, ih]
      revert hc
      cases g m <;> cases g (m + n) <;> cases g (m + n + 1) <;> simp
theorem Qm_day (l : List (Int × Int)) (m k : Int) : Qm l (m + 1440 * k) = Qm l m := by
  unfold Qm
  congr 1
  omega
theorem cov_ok {f t x : Int} (_h1 : 0 ≤ f) (_h2 : f ≤ 1439) (_h3 : 0 ≤ t) (_h4 : t ≤ 1439) (hne : f ≠ t) (hx : 0 ≤ x) (hx2 : x ≤ 1439) : cov f t x = decide ((x - f) % 1440 < (t - f) % 1440) := by
  unfold cov
  rw [Bool.eq_iff_iff]
  by_cases h : f < t
  · rw [if_pos h]
    simp
    omega
  · rw [if_neg h]
    simp
    omega
end Go.Proofs.Ytmejpmnipejpiaa
