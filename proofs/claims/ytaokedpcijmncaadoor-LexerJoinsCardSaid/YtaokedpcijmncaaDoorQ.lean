/- The lexer over lists of bytes: what follows a token does not change it. -/
import Derived.Test.YtaokedpcijmncaaDoorN
namespace Go.Proofs.YtaokedpcijmncaaDoor
open Go.RowKit Go.Maps

/-- A dot with a digit behind it. -/
def dotF : List UInt8 → Bool
  | [] => false
  | c :: m => ((c.toNat : Int) == 46) && (hk m == 2)
/-- The length of a number. -/
def numE (l : List UInt8) : Nat := if dotF (l.drop (run 2 l)) then run 2 l + 1 + run 2 (l.drop (run 2 l + 1)) else run 2 l
/-- The value of a number. -/
def numV (l : List UInt8) : Nat := 10 * dec (l.take (run 2 l)) + if dotF (l.drop (run 2 l)) then dec ((l.drop (run 2 l + 1)).take (numE l - run 2 l - 1)) else 0
def twoL : List UInt8 → Bool
  | c :: d :: _ => (((c.toNat : Int) == 60) || ((c.toNat : Int) == 62)) && ((d.toNat : Int) == 61)
  | _ => false
/-- The first bytes of a list, as a text. -/
def txt (l : List UInt8) : ByteArray := ⟨l.toArray⟩
/-- What begins a list. -/
def mkI (p : Nat) (l : List UInt8) : Item :=
  if hk l = 1 then (if run 7 l > 16 then ⟨0, ⟨#[]⟩, 0, p, 2⟩ else ⟨1, txt (l.take (run 7 l)), 0, p, 0⟩)
  else if hk l = 2 then (if run 2 l > 9 ∨ numE l - run 2 l > 2 then ⟨0, ⟨#[]⟩, 0, p, 4⟩ else ⟨2, txt (l.take (numE l)), numV l, p, 0⟩)
  else if hk l = 8 then ⟨3, txt (l.take (if twoL l then 2 else 1)), 0, p, 0⟩
  else ⟨0, ⟨#[]⟩, 0, p, 3⟩

theorem txt_sfx (s : ByteArray) (i n : Nat) : s.extract i (i + n) = txt ((sfx s i).take n) := by
  apply ByteArray.ext
  apply Array.ext'
  rw [sfx_extract]
  rfl
theorem dotF_sfx (s : ByteArray) (d : Nat) : frac s d = dotF (sfx s d) := by
  unfold frac
  by_cases h : d < s.size
  · rw [dif_pos h, sfx_cons h, dotF, hk_sfx]
  · rw [dif_neg h, sfx_nil (by omega)]; rfl
theorem numE_sfx (s : ByteArray) (i : Nat) : nend s i = i + numE (sfx s i) := by
  unfold nend numE
  rw [run_sfx s i 2, dotF_sfx, sfx_drop]
  split
  · rw [run_sfx, sfx_drop, show i + (run 2 (sfx s i) + 1) = i + run 2 (sfx s i) + 1 by omega]; omega
  · rfl
theorem numV_sfx (s : ByteArray) (i : Nat) : nval s i = numV (sfx s i) := by
  unfold nval numV decs
  rw [run_sfx s i 2, dotF_sfx, sfx_drop, sfx_extract]
  by_cases h : dotF (sfx s (i + run 2 (sfx s i))) = true
  · have hE := numE_sfx s i
    have hn : numE (sfx s i) = run 2 (sfx s i) + 1 + run 2 ((sfx s i).drop (run 2 (sfx s i) + 1)) := by
      unfold numE; rw [sfx_drop, if_pos h]
    rw [if_pos h, if_pos h, sfx_drop, hE]
    rw [show i + numE (sfx s i) = (i + run 2 (sfx s i) + 1) + (numE (sfx s i) - run 2 (sfx s i) - 1) by omega, sfx_extract]
    rw [show i + (run 2 (sfx s i) + 1) = i + run 2 (sfx s i) + 1 by omega]
  · rw [if_neg h, if_neg h]
theorem item_sfx (s : ByteArray) (p : Nat) : item s p = mkI p (sfx s p) := by
  unfold item mkI
  rw [hk_sfx, numV_sfx, numE_sfx, run_sfx s p 7, run_sfx s p 2]
  have e1 : p + run 7 (sfx s p) - p = run 7 (sfx s p) := by omega
  have e2 : p + run 2 (sfx s p) - p = run 2 (sfx s p) := by omega
  have e3 : p + numE (sfx s p) - (p + run 2 (sfx s p)) = numE (sfx s p) - run 2 (sfx s p) := by omega
  have e4 : slen s p = if twoL (sfx s p) then 2 else 1 := rfl
  rw [e1, e2, e3, txt_sfx, txt_sfx, e4, txt_sfx]

theorem run_app (K : Int) (u r : List UInt8) : run K (u ++ r) = if run K u < u.length then run K u else u.length + run K r := by
  induction u with
  | nil => simp [run]
  | cons c u ih =>
    rw [List.cons_append, run, run]
    split
    · rw [ih]; simp only [List.length_cons]
      by_cases h : run K u < u.length
      · rw [if_pos h, if_pos (by omega)]
      · rw [if_neg h, if_neg (by omega)]; omega
    · simp
/-- What may follow in the place of something else. -/
def Bd (r r' : List UInt8) : Prop := (hk r' = 0 ∨ hk r' = 16 ∨ hk r' = 32) ∨ (∃ c m m', r = c :: m ∧ r' = c :: m' ∧ (c.toNat = 46 → hk m ≠ 2 → hk m' ≠ 2))
theorem Bd.inK {r r' : List UInt8} (h : Bd r r') {K : Int} (hK : inK 16 K = false ∧ inK 32 K = false) (hr : inK (hk r) K = false) : inK (hk r') K = false := by
  rcases h with (h | h | h) | ⟨c, m, m', rfl, rfl, _⟩
  · rw [h]; exact inK_0 K
  · rw [h]; exact hK.1
  · rw [h]; exact hK.2
  · exact hr
theorem run_zero {K : Int} {r : List UInt8} : run K r = 0 ↔ inK (hk r) K = false := by
  cases r with
  | nil => exact ⟨fun _ => inK_0 K, fun _ => rfl⟩
  | cons c r =>
    unfold run
    by_cases h : inK (kb c) K = true
    · rw [if_pos h]; simp [hk, h]
    · rw [if_neg h]; simp only [hk]; simpa using h
theorem run_bd {u r r' : List UInt8} (h : Bd r r') {K : Int} (hK : inK 16 K = false ∧ inK 32 K = false) (hl : run K (u ++ r) ≤ u.length) : run K (u ++ r') = run K (u ++ r) := by
  rw [run_app] at hl ⊢
  rw [run_app]
  by_cases hc : run K u < u.length
  · rw [if_pos hc, if_pos hc]
  · rw [if_neg hc] at hl
    have h0 : run K r = 0 := by omega
    rw [if_neg hc, if_neg hc, h0, run_zero.2 (h.inK hK (run_zero.1 h0))]
theorem K7 : inK 16 7 = false ∧ inK 32 7 = false := by decide
theorem K2 : inK 16 2 = false ∧ inK 32 2 = false := by decide
theorem kt_dot : ∀ n : Fin 256, n.val = 46 → kt.getD n.val 0 = 8 := by decide +kernel
theorem kt_eq : ∀ n : Fin 256, n.val = 61 → kt.getD n.val 0 = 8 := by decide +kernel
theorem kb_dot {c : UInt8} (h : c.toNat = 46) : kb c = 8 := kt_dot ⟨c.toNat, c.toNat_lt⟩ h
theorem kb_eq {c : UInt8} (h : c.toNat = 61) : kb c = 8 := kt_eq ⟨c.toNat, c.toNat_lt⟩ h
theorem Bd.not2 {r r' : List UInt8} (h : Bd r r') (hr : hk r ≠ 2) : hk r' ≠ 2 := by
  rcases h with (h | h | h) | ⟨c, m, m', rfl, rfl, _⟩
  · rw [h]; decide
  · rw [h]; decide
  · rw [h]; decide
  · exact hr
theorem dotF_not8 {r : List UInt8} (h : hk r ≠ 8) : dotF r = false := by
  cases r with
  | nil => rfl
  | cons c m =>
    show (((c.toNat : Int) == 46) && (hk m == 2)) = false
    have : ((c.toNat : Int) == 46) = false := by
      rw [beq_eq_false_iff_ne]; intro e; exact h (kb_dot (by omega))
    rw [this]; rfl
theorem Bd.dot {r r' : List UInt8} (h : Bd r r') (hr : dotF r = false) : dotF r' = false := by
  rcases h with (h | h | h) | ⟨c, m, m', rfl, rfl, hh⟩
  · exact dotF_not8 (by rw [h]; decide)
  · exact dotF_not8 (by rw [h]; decide)
  · exact dotF_not8 (by rw [h]; decide)
  · have hr2 : (((c.toNat : Int) == 46) && (hk m == 2)) = false := hr
    show (((c.toNat : Int) == 46) && (hk m' == 2)) = false
    rw [Bool.and_eq_false_iff] at hr2 ⊢
    rcases hr2 with h1 | h1
    · exact .inl h1
    · by_cases h46 : c.toNat = 46
      · right
        rw [beq_eq_false_iff_ne] at h1 ⊢
        exact hh h46 h1
      · left
        rw [beq_eq_false_iff_ne]; omega
theorem run_pos {l : List UInt8} (h : hk l = 2) : 1 ≤ run 2 l := by
  cases l with
  | nil => cases h
  | cons c l => unfold run; rw [if_pos (by rw [show kb c = 2 from h]; decide)]; omega

theorem dotF_bd {v r r' : List UInt8} (h : Bd r r') (hl : dotF (v ++ r) = true → 1 + run 2 ((v ++ r).drop 1) ≤ v.length) : dotF (v ++ r') = dotF (v ++ r) := by
  match v with
  | [] =>
    have h1 : dotF r = false := by
      cases hd : dotF r with
      | false => rfl
      | true => have := hl hd; simp at this
    rw [List.nil_append, List.nil_append, h1]
    exact h.dot h1
  | [c] =>
    have h1 : dotF ([c] ++ r) = false := by
      cases hd : dotF ([c] ++ r) with
      | false => rfl
      | true =>
        have h2 := hl hd
        simp only [List.cons_append, List.nil_append, dotF, Bool.and_eq_true, beq_iff_eq] at hd
        have := run_pos hd.2
        simp at h2; omega
    rw [h1]
    simp only [List.cons_append, List.nil_append, dotF] at h1 ⊢
    rw [Bool.and_eq_false_iff] at h1 ⊢
    rcases h1 with h1 | h1
    · exact .inl h1
    · right
      rw [beq_eq_false_iff_ne] at h1 ⊢
      exact h.not2 h1
  | c :: d :: w => rfl

theorem twoL_bd {u r r' : List UInt8} (hu : u ≠ []) (h : Bd r r') (hl : twoL (u ++ r) = true → 2 ≤ u.length) : twoL (u ++ r') = twoL (u ++ r) := by
  match u, hu with
  | [c], _ =>
    have h1 : twoL ([c] ++ r) = false := by
      cases hd : twoL ([c] ++ r) with
      | false => rfl
      | true => have := hl hd; simp at this
    rw [h1]
    have hsp : ∀ x : List UInt8, hk x ≠ 8 → twoL ([c] ++ x) = false := fun x hx => by
      cases x with
      | nil => rfl
      | cons d m' =>
        show ((((c.toNat : Int) == 60) || ((c.toNat : Int) == 62)) && ((d.toNat : Int) == 61)) = false
        have : ((d.toNat : Int) == 61) = false := by
          rw [beq_eq_false_iff_ne]; intro e; exact hx (kb_eq (c := d) (by omega))
        rw [this, Bool.and_false]
    rcases h with (h | h | h) | ⟨d, m, m', rfl, rfl, _⟩
    · exact hsp r' (by rw [h]; decide)
    · exact hsp r' (by rw [h]; decide)
    · exact hsp r' (by rw [h]; decide)
    · exact h1
  | c :: d :: w, _ => rfl
theorem hk_app {u r r' : List UInt8} (hu : u ≠ []) : hk (u ++ r') = hk (u ++ r) := by
  cases u with
  | nil => exact absurd rfl hu
  | cons c u => rfl
theorem txt_size (l : List UInt8) : (txt l).size = l.length := by simp [txt, ByteArray.size]
theorem numE_le (l : List UInt8) : numE l ≤ l.length := by
  have h1 := run_le 2 l
  unfold numE
  split
  · rename_i h
    have h2 := run_le 2 (l.drop (run 2 l + 1))
    simp only [List.length_drop] at h2
    have : run 2 l < l.length := by
      apply Classical.byContradiction; intro hn
      rw [List.drop_of_length_le (by omega)] at h; cases h
    omega
  · exact h1
theorem numE_ge (l : List UInt8) : run 2 l ≤ numE l := by unfold numE; split <;> omega
theorem num_bd {u r r' : List UInt8} (h : Bd r r') (hl : numE (u ++ r) ≤ u.length) : run 2 (u ++ r') = run 2 (u ++ r) ∧ numE (u ++ r') = numE (u ++ r) ∧ numV (u ++ r') = numV (u ++ r) := by
  have h1 : run 2 (u ++ r) ≤ u.length := Nat.le_trans (numE_ge _) hl
  have hr := run_bd h K2 h1
  have hdr : ∀ x : List UInt8, (u ++ x).drop (run 2 (u ++ r)) = u.drop (run 2 (u ++ r)) ++ x := fun x => List.drop_append_of_le_length h1
  have hd : dotF ((u ++ r').drop (run 2 (u ++ r))) = dotF ((u ++ r).drop (run 2 (u ++ r))) := by
    rw [hdr, hdr]
    refine dotF_bd h (fun hx => ?_)
    rw [← hdr] at hx
    have : numE (u ++ r) = run 2 (u ++ r) + 1 + run 2 ((u ++ r).drop (run 2 (u ++ r) + 1)) := by unfold numE; rw [if_pos hx]
    rw [← hdr, List.drop_drop, List.length_drop]
    omega
  have htk : ∀ n, n ≤ u.length → (u ++ r').take n = (u ++ r).take n := fun n hn => by
    rw [List.take_append_of_le_length hn, List.take_append_of_le_length hn]
  by_cases hx : dotF ((u ++ r).drop (run 2 (u ++ r))) = true
  · have hE : numE (u ++ r) = run 2 (u ++ r) + 1 + run 2 ((u ++ r).drop (run 2 (u ++ r) + 1)) := by unfold numE; rw [if_pos hx]
    have h2 : run 2 (u ++ r) + 1 ≤ u.length := by omega
    have hdr2 : ∀ x : List UInt8, (u ++ x).drop (run 2 (u ++ r) + 1) = u.drop (run 2 (u ++ r) + 1) ++ x := fun x => List.drop_append_of_le_length h2
    have hr2 : run 2 ((u ++ r').drop (run 2 (u ++ r) + 1)) = run 2 ((u ++ r).drop (run 2 (u ++ r) + 1)) := by
      rw [hdr2, hdr2]
      refine run_bd h K2 ?_
      rw [← hdr2, List.length_drop]; omega
    have hE' : numE (u ++ r') = numE (u ++ r) := by
      rw [hE]; unfold numE; rw [hr, hd, if_pos hx, hr2]
    refine ⟨hr, hE', ?_⟩
    unfold numV
    rw [hr, hd, if_pos hx, if_pos hx, hE', htk _ h1]
    congr 1
    congr 1
    rw [hdr2, hdr2, List.take_append_of_le_length, List.take_append_of_le_length]
    all_goals rw [List.length_drop]; omega
  · have hE : numE (u ++ r) = run 2 (u ++ r) := by unfold numE; rw [if_neg hx]
    have hE' : numE (u ++ r') = numE (u ++ r) := by
      rw [hE]; unfold numE; rw [hr, hd, if_neg hx]
    refine ⟨hr, hE', ?_⟩
    unfold numV
    rw [hr, hd, if_neg hx, if_neg hx, htk _ h1]
/-- What follows a token does not change it. -/
theorem mkI_bd {u r r' : List UInt8} (p : Nat) (hu : u ≠ []) (h : Bd r r') (hok : (mkI p (u ++ r)).err = 0) (hl : (mkI p (u ++ r)).t.size ≤ u.length) : mkI p (u ++ r') = mkI p (u ++ r) := by
  have htk : ∀ n, n ≤ u.length → (u ++ r').take n = (u ++ r).take n := fun n hn => by
    rw [List.take_append_of_le_length hn, List.take_append_of_le_length hn]
  have hlen : ∀ n, n ≤ (u ++ r).length → (txt ((u ++ r).take n)).size = n := fun n hn => by rw [txt_size, List.length_take]; omega
  unfold mkI at hok hl ⊢
  rw [hk_app (r := r) (r' := r') hu]
  split at hok
  · rename_i hk1
    rw [if_pos hk1] at hl ⊢
    rw [if_pos hk1]
    split at hok
    · cases hok
    · rename_i hc
      rw [if_neg hc] at hl ⊢
      have hl2 : run 7 (u ++ r) ≤ u.length := by rw [← hlen _ (run_le 7 _)]; exact hl
      rw [run_bd h K7 hl2, if_neg hc, htk _ hl2]
  · rename_i hk1
    rw [if_neg hk1] at hl ⊢
    rw [if_neg hk1]
    split at hok
    · rename_i hk2
      rw [if_pos hk2] at hl ⊢
      rw [if_pos hk2]
      split at hok
      · cases hok
      · rename_i hc
        rw [if_neg hc] at hl ⊢
        have hl2 : numE (u ++ r) ≤ u.length := by rw [← hlen _ (numE_le _)]; exact hl
        obtain ⟨h1, h2, h3⟩ := num_bd h hl2
        rw [h1, h2, h3, if_neg hc, htk _ hl2]
    · rename_i hk2
      rw [if_neg hk2] at hl ⊢
      rw [if_neg hk2]
      split at hok
      · rename_i hk8
        rw [if_pos hk8] at hl ⊢
        rw [if_pos hk8]
        have hu1 : 1 ≤ u.length := by cases u with | nil => exact absurd rfl hu | cons c u => simp
        have ht : twoL (u ++ r') = twoL (u ++ r) := twoL_bd hu h (fun hx => by
          rw [if_pos hx] at hl
          have h2 : 2 ≤ (u ++ r).length := by
            match h' : u ++ r, hx with
            | c :: d :: w, _ => simp
          rw [hlen 2 h2] at hl
          exact hl)
        rw [ht]
        congr 2
        split
        · rename_i hx
          rw [if_pos hx] at hl
          have h2 : 2 ≤ (u ++ r).length := by
            match h' : u ++ r, hx with
            | c :: d :: w, _ => simp
          rw [hlen 2 h2] at hl
          exact htk 2 hl
        · exact htk 1 hu1
      · cases hok
end Go.Proofs.YtaokedpcijmncaaDoor
