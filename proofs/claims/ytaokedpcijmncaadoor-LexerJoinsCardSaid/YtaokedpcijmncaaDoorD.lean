/- The table of scanners, and the contract of 'next'. -/
import Derived.Test.YtaokedpcijmncaaDoorC
import Derived.Maps.Own
import Derived.Maps.OwnSet
import Derived.Maps.Views
namespace Go.Proofs.YtaokedpcijmncaaDoor
open Go.RowKit Go.Maps

/-- How a function among a map's elements reads. -/
def fnElem : Value → Option (DataW Unit × List MemPlace)
  | .func (.func n) a c => if a.size = 0 ∧ c.size = 0 then some (.lit (.int .i64 n), []) else none
  | .nilFunc => some (.nil, [])
  | _ => none
/-- The table of scanners, as a datum. -/
def scanD : DataW Unit := (((DataW.map []).put (.int .u8 1) (.lit (.int .i64 22))).put (.int .u8 2) (.lit (.int .i64 23))).put (.int .u8 8) (.lit (.int .i64 24))
theorem keyed47 : Keyed Tryd.prog 47 := int_keyed Tryd.underlying47
/-- Block b is the table of scanners. -/
def Scan (w : World) (b : Nat) : Prop := w.ownsMap Tryd.prog 47 fnElem b 3 scanD

set_option maxHeartbeats 1000000 in
theorem scanners_any (w : World) :
    Calls Tryd.prog 19 #[] w fun e w' => e = .returned (.map (some w.heap.size)) ∧ Scan w' w.heap.size ∧ Below w.heap.size w w' := by
  have hmm := @run_makeMap Tryd.prog
  have ow0 := World.ownsMap_made w Tryd.prog 47 fnElem
  obtain ⟨w1, hr1, ow1, hg1⟩ := ow0.update (val := .func (.func 22) #[] #[]) keyed47 Tryd.underlying43 (by unfold maxLen; omega) (keyOf_int_mk (a := 1) Tryd.underlying47 (by decide)) rfl
  obtain ⟨w2, hr2, ow2, hg2⟩ := ow1.update (val := .func (.func 23) #[] #[]) keyed47 Tryd.underlying43 (by unfold maxLen; omega) (keyOf_int_mk (a := 2) Tryd.underlying47 (by decide)) rfl
  obtain ⟨w3, hr3, ow3, hg3⟩ := ow2.update (val := .func (.func 24) #[] #[]) keyed47 Tryd.underlying43 (by unfold maxLen; omega) (keyOf_int_mk (a := 8) Tryd.underlying47 (by decide)) rfl
  have hb : Below w.heap.size w w3 := ((((Below.refl _ _).alloc (Nat.le_refl _) _).grown hg1 (by simp) (fun k hk => by cases hk; exact Nat.le_refl _)).grown hg2 (by have := ow1.lt; omega) (fun k hk => by cases hk; exact Nat.le_refl _)).grown hg3 (by have := ow2.lt; omega) (fun k hk => by cases hk; exact Nat.le_refl _)
  have HF := Lib.hid (show Scan w3 w.heap.size ∧ Below w.heap.size w w3 from ⟨ow3, hb⟩)
  clear hb ow3 ow2 ow1 ow0 hg3 hg2 hg1
  go_enter Tryd.func19, Tryd.ntmps19
  go_wp2
  go_ret
  exact ⟨rfl, HF.out⟩

theorem fnElem_inv {v : Value} {n : Nat} {ps : List MemPlace} (h : fnElem v = some (.lit (.int .i64 n), ps)) : v = .func (.func n) #[] #[] := by
  unfold fnElem at h
  split at h
  · rename_i m a c
    split at h
    · rename_i hc
      obtain ⟨h1, h2⟩ := hc
      rw [Array.size_eq_zero_iff.1 h1, Array.size_eq_zero_iff.1 h2]
      simp only [Option.some.injEq, Prod.mk.injEq, DataW.lit.injEq, Lit.int.injEq, true_and, Int.natCast_inj] at h
      rw [h.1]
    · cases h
  · simp at h
  · cases h
theorem fnElem_nil {v : Value} {ps : List MemPlace} (h : fnElem v = some (.nil, ps)) : v = .nilFunc := by
  unfold fnElem at h
  split at h
  · split at h
    · simp at h
    · cases h
  · rfl
  · cases h
theorem Scan.look {w : World} {b : Nat} (h : Scan w b) (a : Int) (f : Nat) (ha : (Lit.int .u8 a).wf = true) (hat : scanD.atKey (.int .u8 a) .nil = .lit (.int .i64 f)) (hh : has scanD (.int .u8 a) = true) :
    (Instr.lookup 43 (.map (some b)) (.int .u8 a) true).run Tryd.prog w = .ok (.tuple #[.func (.func f) #[] #[], .bool true]) w := by
  obtain ⟨v, ps, hrun, hv⟩ := World.ownsMap.look_ok h keyed47 Tryd.underlying43 (z := .nilFunc) (zd := .nil) (zp := []) (by kernel_rfl) rfl (keyOf_int_mk (a := a) Tryd.underlying47 ha)
  rw [hat] at hv
  rw [hrun, fnElem_inv hv, hh]
theorem Scan.miss {w : World} {b : Nat} (h : Scan w b) (a : Int) (ha : (Lit.int .u8 a).wf = true) (hat : scanD.atKey (.int .u8 a) .nil = .nil) (hh : has scanD (.int .u8 a) = false) :
    (Instr.lookup 43 (.map (some b)) (.int .u8 a) true).run Tryd.prog w = .ok (.tuple #[.nilFunc, .bool false]) w := by
  obtain ⟨v, ps, hrun, hv⟩ := World.ownsMap.look_ok h keyed47 Tryd.underlying43 (z := .nilFunc) (zd := .nil) (zp := []) (by kernel_rfl) rfl (keyOf_int_mk (a := a) Tryd.underlying47 ha)
  rw [hat] at hv
  rw [hrun, fnElem_nil hv, hh]

theorem Scan.alloc {w : World} {b : Nat} (h : Scan w b) (o : Obj) : Scan (w.alloc o) b := World.ownsMap.alloc h o

theorem bcell {W w1 : World} (hb : Below W.heap.size W w1) : (∀ b o, b < W.heap.size → w1.cell? ⟨b, o, none⟩ = W.cell? ⟨b, o, none⟩) ∧ (∀ b o, b < W.heap.size → w1.frozen? ⟨b, o, none⟩ = W.frozen? ⟨b, o, none⟩) :=
  ⟨fun b o h => hb.cell (p := ⟨b, o, none⟩) h, fun b o h => hb.frozen (p := ⟨b, o, none⟩) h⟩
theorem below_lt {W w1 : World} {o : Obj} (hb : Below (W.alloc o).heap.size (W.alloc o) w1) : W.heap.size < w1.heap.size :=
  Nat.lt_of_lt_of_le (by simp) hb.size
theorem below_four {w w' : World} {o o2 : Obj} (hb : Below (w.alloc o).heap.size (w.alloc o) w') (x0 x1 x2 x3 : Value) :
    Below w.heap.size w (((((w'.setCell ⟨w.heap.size, 0, none⟩ x0).setCell ⟨w.heap.size, 1, none⟩ x1).setCell ⟨w.heap.size, 2, none⟩ x2).setCell ⟨w.heap.size, 3, none⟩ x3).alloc o2) := by
  have hl := below_lt hb
  refine Below.alloc ?_ (by simp; omega) _
  exact ((((((Below.refl _ _).alloc (Nat.le_refl _) _).trans (hb.mono (by simp))).setCell (p := ⟨w.heap.size, 0, none⟩) (Nat.le_refl _) _).setCell (p := ⟨w.heap.size, 1, none⟩) (Nat.le_refl _) _).setCell (p := ⟨w.heap.size, 2, none⟩) (Nat.le_refl _) _).setCell (p := ⟨w.heap.size, 3, none⟩) (Nat.le_refl _) _
/-- The length of a symbol. -/
def slen (s : ByteArray) (i : Nat) : Nat := if two s i then 2 else 1
theorem scanSymbol_len (s : ByteArray) (i : Nat) (w : World) (hs : s.size < 2 ^ 63 - 1) (hi : i < s.size) :
    Calls Tryd.prog 24 #[.string s, .int .i64 i] w fun e w' => e = .returned (.tuple #[tokv 3 (s.extract i (i + slen s i)) 0 i, .int .i64 0]) ∧ Below w.heap.size w w' := by
  have := scanSymbol_any s i w (by unfold maxLen; omega) (by omega) (by omega)
  rw [Int.toNat_natCast] at this
  exact this
set_option maxHeartbeats 1000000 in
theorem next_name_ok (s : ByteArray) (i : Nat) (w : World) (b : Nat) (hs : s.size < 2 ^ 63 - 1) (HT : Hid (Tab w)) (HS : Hid (Scan w b)) (hk : kd s i = 1) (hi : i < s.size) (HC : Hid (¬ rend s i 7 - i > 16)) :
    Calls Tryd.prog 21 #[.map (some b), .string s, .int .i64 i] w fun e w' => e = .returned (.tuple #[tokv 1 (s.extract i (rend s i 7)) 0 i, .int .i64 0]) ∧ Below w.heap.size w w' := by
  have hl := fun o => (HS.out.alloc o).look 1 22 (by decide) rfl rfl
  go_enter Tryd.func21, Tryd.ntmps21
  go_wp2_with (first | (go_at_call 26; go_must (refine (kindAt_any s _ _ (by unfold maxLen; omega) (by omega) (HT.out.alloc _)).mono ?_); rintro e w' ⟨rfl, rfl⟩; simp only [Int.toNat_natCast])
                     | (go_at_call 22; go_must (refine (scanName_ok s i _ (by unfold maxLen; omega) (by omega) (by omega) (HT.out.alloc _) (by rw [Int.toNat_natCast]; exact HC.out)).mono ?_); rintro e w' ⟨rfl, hb⟩; unfold tokv; obtain ⟨hc, hf⟩ := bcell hb; have hz := below_lt hb))
  exact bodyPost_ret (v := .tuple #[tokv 1 (s.extract i (rend s i 7)) 0 i, .int .i64 0]) (by simp [results, Tryd.results21, go_sem, tokv, hc, hz]) rfl ⟨rfl, below_four hb _ _ _ _⟩
set_option maxHeartbeats 1000000 in
theorem next_name_err (s : ByteArray) (i : Nat) (w : World) (b : Nat) (hs : s.size < 2 ^ 63 - 1) (HT : Hid (Tab w)) (HS : Hid (Scan w b)) (hk : kd s i = 1) (hi : i < s.size) (HC : Hid (rend s i 7 - i > 16)) :
    Calls Tryd.prog 21 #[.map (some b), .string s, .int .i64 i] w fun e w' => e = .returned (.tuple #[tokv 0 ⟨#[]⟩ 0 i, .int .i64 2]) ∧ Below w.heap.size w w' := by
  have hl := fun o => (HS.out.alloc o).look 1 22 (by decide) rfl rfl
  go_enter Tryd.func21, Tryd.ntmps21
  go_wp2_with (first | (go_at_call 26; go_must (refine (kindAt_any s _ _ (by unfold maxLen; omega) (by omega) (HT.out.alloc _)).mono ?_); rintro e w' ⟨rfl, rfl⟩; simp only [Int.toNat_natCast])
                     | (go_at_call 22; go_must (refine (scanName_err s i _ (by unfold maxLen; omega) (by omega) (by omega) (HT.out.alloc _) (by rw [Int.toNat_natCast]; exact HC.out)).mono ?_); rintro e w' ⟨rfl, hb⟩; unfold tokv; obtain ⟨hc, hf⟩ := bcell hb; have hz := below_lt hb))
  exact bodyPost_ret (v := .tuple #[tokv 0 ⟨#[]⟩ 0 i, .int .i64 2]) (by simp [results, Tryd.results21, go_sem, tokv, hc, hz]) rfl ⟨rfl, below_four hb _ _ _ _⟩
set_option maxHeartbeats 1000000 in
theorem next_num_ok (s : ByteArray) (i : Nat) (w : World) (b : Nat) (hs : s.size < 2 ^ 63 - 1) (HT : Hid (Tab w)) (HS : Hid (Scan w b)) (hk : kd s i = 2) (hi : i < s.size) (HC : Hid (¬ nbad s i)) :
    Calls Tryd.prog 21 #[.map (some b), .string s, .int .i64 i] w fun e w' => e = .returned (.tuple #[tokv 2 (s.extract i (nend s i)) (nval s i) i, .int .i64 0]) ∧ Below w.heap.size w w' := by
  have hl := fun o => (HS.out.alloc o).look 2 23 (by decide) rfl rfl
  go_enter Tryd.func21, Tryd.ntmps21
  go_wp2_with (first | (go_at_call 26; go_must (refine (kindAt_any s _ _ (by unfold maxLen; omega) (by omega) (HT.out.alloc _)).mono ?_); rintro e w' ⟨rfl, rfl⟩; simp only [Int.toNat_natCast])
                     | (go_at_call 23; go_must (refine (scanNumber_ok s i _ hs hi (Lib.hid (HT.out.alloc _)) HC.out).mono ?_); rintro e w' ⟨rfl, hb⟩; unfold tokv; obtain ⟨hc, hf⟩ := bcell hb; have hz := below_lt hb))
  exact bodyPost_ret (v := .tuple #[tokv 2 (s.extract i (nend s i)) (nval s i) i, .int .i64 0]) (by simp [results, Tryd.results21, go_sem, tokv, hc, hz]) rfl ⟨rfl, below_four hb _ _ _ _⟩
set_option maxHeartbeats 1000000 in
theorem next_num_err (s : ByteArray) (i : Nat) (w : World) (b : Nat) (hs : s.size < 2 ^ 63 - 1) (HT : Hid (Tab w)) (HS : Hid (Scan w b)) (hk : kd s i = 2) (hi : i < s.size) (HC : Hid (nbad s i)) :
    Calls Tryd.prog 21 #[.map (some b), .string s, .int .i64 i] w fun e w' => e = .returned (.tuple #[tokv 0 ⟨#[]⟩ 0 i, .int .i64 4]) ∧ Below w.heap.size w w' := by
  have hl := fun o => (HS.out.alloc o).look 2 23 (by decide) rfl rfl
  go_enter Tryd.func21, Tryd.ntmps21
  go_wp2_with (first | (go_at_call 26; go_must (refine (kindAt_any s _ _ (by unfold maxLen; omega) (by omega) (HT.out.alloc _)).mono ?_); rintro e w' ⟨rfl, rfl⟩; simp only [Int.toNat_natCast])
                     | (go_at_call 23; go_must (refine (scanNumber_err s i _ hs hi (Lib.hid (HT.out.alloc _)) HC.out).mono ?_); rintro e w' ⟨rfl, hb⟩; unfold tokv; obtain ⟨hc, hf⟩ := bcell hb; have hz := below_lt hb))
  exact bodyPost_ret (v := .tuple #[tokv 0 ⟨#[]⟩ 0 i, .int .i64 4]) (by simp [results, Tryd.results21, go_sem, tokv, hc, hz]) rfl ⟨rfl, below_four hb _ _ _ _⟩
set_option maxHeartbeats 1000000 in
theorem next_sym (s : ByteArray) (i : Nat) (w : World) (b : Nat) (hs : s.size < 2 ^ 63 - 1) (HT : Hid (Tab w)) (HS : Hid (Scan w b)) (hk : kd s i = 8) (hi : i < s.size) :
    Calls Tryd.prog 21 #[.map (some b), .string s, .int .i64 i] w fun e w' => e = .returned (.tuple #[tokv 3 (s.extract i (i + slen s i)) 0 i, .int .i64 0]) ∧ Below w.heap.size w w' := by
  have hl := fun o => (HS.out.alloc o).look 8 24 (by decide) rfl rfl
  go_enter Tryd.func21, Tryd.ntmps21
  go_wp2_with (first | (go_at_call 26; go_must (refine (kindAt_any s _ _ (by unfold maxLen; omega) (by omega) (HT.out.alloc _)).mono ?_); rintro e w' ⟨rfl, rfl⟩; simp only [Int.toNat_natCast])
                     | (go_at_call 24; go_must (refine (scanSymbol_len s i _ hs hi).mono ?_); rintro e w' ⟨rfl, hb⟩; unfold tokv; obtain ⟨hc, hf⟩ := bcell hb; have hz := below_lt hb))
  exact bodyPost_ret (v := .tuple #[tokv 3 (s.extract i (i + slen s i)) 0 i, .int .i64 0]) (by simp [results, Tryd.results21, go_sem, tokv, hc, hz]) rfl ⟨rfl, below_four hb _ _ _ _⟩
set_option maxHeartbeats 1000000 in
theorem next_miss (s : ByteArray) (i : Nat) (w : World) (b : Nat) (hs : s.size < 2 ^ 63 - 1) (HT : Hid (Tab w)) (HS : Hid (Scan w b)) (a : Int) (hk : kd s i = a) (hw : (Lit.int .u8 a).wf = true) (hat : scanD.atKey (.int .u8 a) .nil = .nil) (hh : has scanD (.int .u8 a) = false) :
    Calls Tryd.prog 21 #[.map (some b), .string s, .int .i64 i] w fun e w' => e = .returned (.tuple #[tokv 0 ⟨#[]⟩ 0 i, .int .i64 3]) ∧ Below w.heap.size w w' := by
  have hl := fun o => (HS.out.alloc o).miss a hw hat hh
  clear hw hat hh
  go_enter Tryd.func21, Tryd.ntmps21
  go_wp2_with (go_at_call 26; go_must (refine (kindAt_any s _ _ (by unfold maxLen; omega) (by omega) (HT.out.alloc _)).mono ?_); rintro e w' ⟨rfl, rfl⟩; simp only [Int.toNat_natCast])
  exact bodyPost_ret (v := .tuple #[tokv 0 ⟨#[]⟩ 0 i, .int .i64 3]) (by simp [results, Tryd.results21, go_sem, tokv]) rfl ⟨rfl, (Below.refl _ _).alloc (Nat.le_refl _) _⟩
end Go.Proofs.YtaokedpcijmncaaDoor
