/- Frames as bytes: bytes as a string, 'Equal'. -/
import Derived.Test.YtebeaekiaikgmaaFf
import Derived.Laws.BytesArg
namespace Go.Proofs.Ytebeaekiaikgmaa
open Go.RowKit

theorem conv_bys {w : World} {v : Value} {l : List Int} (h : BysAt w v l) : (convert 25 9 v).run Try.prog w = .ok (.string (strOfNums l)) w := by
  obtain ⟨a, cap, rfl, -, -, hc⟩ := h
  by_cases hl : l = []
  · subst hl
    cases a with
    | none =>
      have h := run_convert_bytes_nil (P := Try.prog) w 25 5 Try.underlying25 Try.underlying5 0 cap 9 Try.underlying9
      exact h
    | some ad =>
      obtain ⟨b, off, n⟩ := ad
      have h := run_convert_bytes_string (P := Try.prog) w 25 9 5 (some ⟨b, off, n⟩) 0 cap Try.underlying25 Try.underlying5 Try.underlying9
      rw [show ([] : List Int).length = 0 from rfl, h, run_bytesToString w _ 0 cap [] (by simpa using run_loadCells_list (P := Try.prog) w ⟨b, off, n⟩ [] (fun j v hj => by simp at hj))]
      rfl
  · obtain ⟨b, off, rfl, hx⟩ := hc hl
    exact run_convert_bytes_arg (P := Try.prog) w 25 5 Try.underlying25 Try.underlying5 b off l.length cap l rfl (fun i hi => by rw [hx i _ (getD_of hi)]) 9 Try.underlying9
theorem ba_ext {s t : ByteArray} (h : s.toList = t.toList) : s = t := by
  rw [Lib.toList_data, Lib.toList_data] at h
  obtain ⟨a⟩ := s
  obtain ⟨b⟩ := t
  have h2 : a = b := Array.toList_inj.1 h
  rw [h2]
theorem str_inj : ∀ {a b : List Int}, IsBy a → IsBy b → strOfNums a = strOfNums b → a = b := by
  intro a b ha hb h
  have h2 : a.map (fun n => UInt8.ofNat n.toNat) = b.map (fun n => UInt8.ofNat n.toNat) := by
    rw [← strOfNums_data, ← strOfNums_data, h]
  clear h
  induction a generalizing b with
  | nil =>
    cases b with
    | nil => rfl
    | cons y b => simp at h2
  | cons x a ih =>
    cases b with
    | nil => simp at h2
    | cons y b =>
      rw [List.map_cons, List.map_cons, List.cons.injEq] at h2
      have hx := ha x (by simp)
      have hy := hb y (by simp)
      have e : x = y := by
        have h3 := congrArg UInt8.toNat h2.1
        simp at h3
        omega
      rw [e, ih (fun z hz => ha z (by simp [hz])) (fun z hz => hb z (by simp [hz])) h2.2]
set_option maxRecDepth 100000 in
set_option maxHeartbeats 8000000 in
theorem equal_any (u v : Value) (a b : List Int) (w : World) (h : BysAt w u a) (h' : BysAt w v b) (ha : IsBy a) (hb : IsBy b) : Calls Try.prog 40 #[u, v] w fun e w' => e = .returned (.bool (decide (a = b))) ∧ w = w' := by
  have h1 := conv_bys h
  have h2 := conv_bys h'
  obtain ⟨ua, uc, rfl, -⟩ := h
  obtain ⟨va, vc, rfl, -⟩ := h'
  by_cases he : a = b
  · subst he
    obtain ⟨s, hs⟩ : ∃ s, strOfNums a = s := ⟨_, rfl⟩
    rw [hs] at h1 h2
    clear hs
    go_enter Try.func40, Try.ntmps40
    go_wp2
    go_ret
    exact ⟨ret_bool (by simp), rfl⟩
  · have hn := Lib.hid (fun e => he (str_inj ha hb e))
    obtain ⟨s, hs⟩ : ∃ s, strOfNums a = s := ⟨_, rfl⟩
    obtain ⟨t, ht⟩ : ∃ t, strOfNums b = t := ⟨_, rfl⟩
    rw [hs] at h1 hn
    rw [ht] at h2 hn
    clear hs ht
    have e3 : ¬ s.toList = t.toList := fun e => hn.out (ba_ext e)
    have e4 : (s.toList == t.toList) = false := by simpa using e3
    have e2 : (s = t) = False := eq_false hn.out
    replace hn := Lib.hid hn
    go_enter Try.func40, Try.ntmps40
    go_wp2
    go_ret
    exact ⟨ret_bool (by first | (simp [he]; done) | (simp [he]; exact e3)), rfl⟩
end Go.Proofs.Ytebeaekiaikgmaa
