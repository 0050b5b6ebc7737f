/- Frames: 'SameFrame'. -/
import Derived.Test.YtebeaekiaikgmaaFl
namespace Go.Proofs.Ytebeaekiaikgmaa
open Go.RowKit

/-- Two frames are equal. -/
def sameB (a b c d : Int) (l : List Int) (t a' b' c' d' : Int) (l' : List Int) (t' : Int) : Bool := decide (a = a') && (decide (b = b') && (decide (c = c') && (decide (d = d') && (decide (t = t') && decide (l = l')))))
set_option maxRecDepth 100000 in
set_option maxHeartbeats 8000000 in
theorem same_any (a b c d : Int) (sl : Value) (l : List Int) (t a' b' c' d' : Int) (sm : Value) (l' : List Int) (t' : Int) (w : World) (h : IntsAt w sl l) (h' : IntsAt w sm l') : Calls Try.prog 19 #[.agg #[.int .i64 a, .int .i64 b, .int .i64 c, .int .i64 d, sl, .int .i64 t], .agg #[.int .i64 a', .int .i64 b', .int .i64 c', .int .i64 d', sm, .int .i64 t']] w fun e w' => e = .returned (.bool (sameB a b c d l t a' b' c' d' l' t')) ∧ Below w.heap.size w w' := by
  have HL0 := Lib.hid h
  have HM0 := Lib.hid h'
  obtain ⟨sa, sc, rfl, -, -⟩ := h
  obtain ⟨sb, sd, rfl, -, -⟩ := h'
  have HC0 := Lib.hid ((Cs.new w w.heap.size #[.int .i64 a, .int .i64 b, .int .i64 c, .int .i64 d, .slice sa l.length sc, .int .i64 t] 24 rfl).alloc (.cells #[.int .i64 a', .int .i64 b', .int .i64 c', .int .i64 d', .slice sb l'.length sd, .int .i64 t'] 24))
  have HD0 := Lib.hid (Cs.new (w.alloc (.cells #[.int .i64 a, .int .i64 b, .int .i64 c, .int .i64 d, .slice sa l.length sc, .int .i64 t] 24)) (w.heap.size + 1) #[.int .i64 a', .int .i64 b', .int .i64 c', .int .i64 d', .slice sb l'.length sd, .int .i64 t'] 24 (by simp))
  have HB0 := Lib.hid (al2 (w := w) (o1 := .cells #[.int .i64 a, .int .i64 b, .int .i64 c, .int .i64 d, .slice sa l.length sc, .int .i64 t] 24) (o2 := .cells #[.int .i64 a', .int .i64 b', .int .i64 c', .int .i64 d', .slice sb l'.length sd, .int .i64 t'] 24))
  have HL1 := Lib.hid (HL0.out.step HB0.out)
  have HM1 := Lib.hid (HM0.out.step HB0.out)
  have x0 := HC0.out.c 0 rfl
  have x1 := HC0.out.c 1 rfl
  have x2 := HC0.out.c 2 rfl
  have x3 := HC0.out.c 3 rfl
  have x4 := HC0.out.c 4 rfl
  have x5 := HC0.out.c 5 rfl
  have xz := HC0.out.2.2
  have y0 := HD0.out.c 0 rfl
  have y1 := HD0.out.c 1 rfl
  have y2 := HD0.out.c 2 rfl
  have y3 := HD0.out.c 3 rfl
  have y4 := HD0.out.c 4 rfl
  have y5 := HD0.out.c 5 rfl
  have yz := HD0.out.2.2
  by_cases ha : a = a'
  · have ga : (a == a') = true := by simpa using ha
    have Ga := Lib.hid (show decide (a = a') = true by simpa using ha)
    clear ha
    by_cases hb : b = b'
    · have gb : (b == b') = true := by simpa using hb
      have Gb := Lib.hid (show decide (b = b') = true by simpa using hb)
      clear hb
      by_cases hc : c = c'
      · have gc : (c == c') = true := by simpa using hc
        have Gc := Lib.hid (show decide (c = c') = true by simpa using hc)
        clear hc
        by_cases hd : d = d'
        · have gd : (d == d') = true := by simpa using hd
          have Gd := Lib.hid (show decide (d = d') = true by simpa using hd)
          clear hd
          by_cases ht : t = t'
          · have gt : (t == t') = true := by simpa using ht
            have Gt := Lib.hid (show decide (t = t') = true by simpa using ht)
            clear ht
            go_enter Try.func19, Try.ntmps19
            go_wp2_with fail
            refine (ints_any _ _ l l' _ HL1.out HM1.out).mono ?_
            rintro e w3 ⟨rfl, n3, hw3⟩
            have HB3 := Lib.hid (show Below w.heap.size w w3 from keep2 (hw3 ▸ below_drewN' _ _ _) HB0.out)
            clear hw3
            obtain ⟨eb, heb⟩ : ∃ z, decide (l = l') = z := ⟨_, rfl⟩
            rw [heb]
            replace heb := Lib.hid heb
            go_wp2
            go_ret
            exact ⟨ret_bool (by unfold sameB; rw [Ga.out, Gb.out, Gc.out, Gd.out, Gt.out, heb.out]; simp), HB3.out⟩
          · have gt : (t == t') = false := by simpa using ht
            have kt : (t = t') = False := by simpa using ht
            have Gt := Lib.hid (show decide (t = t') = false by simpa using ht)
            go_enter Try.func19, Try.ntmps19
            go_wp2
            go_ret
            exact ⟨ret_bool (by unfold sameB; rw [Ga.out, Gb.out, Gc.out, Gd.out, Gt.out]; first | rfl | simp), HB0.out⟩
        · have gd : (d == d') = false := by simpa using hd
          have kd : (d = d') = False := by simpa using hd
          have Gd := Lib.hid (show decide (d = d') = false by simpa using hd)
          go_enter Try.func19, Try.ntmps19
          go_wp2
          go_ret
          exact ⟨ret_bool (by unfold sameB; rw [Ga.out, Gb.out, Gc.out, Gd.out]; first | rfl | simp), HB0.out⟩
      · have gc : (c == c') = false := by simpa using hc
        have kc : (c = c') = False := by simpa using hc
        have Gc := Lib.hid (show decide (c = c') = false by simpa using hc)
        go_enter Try.func19, Try.ntmps19
        go_wp2
        go_ret
        exact ⟨ret_bool (by unfold sameB; rw [Ga.out, Gb.out, Gc.out]; first | rfl | simp), HB0.out⟩
    · have gb : (b == b') = false := by simpa using hb
      have kb : (b = b') = False := by simpa using hb
      have Gb := Lib.hid (show decide (b = b') = false by simpa using hb)
      go_enter Try.func19, Try.ntmps19
      go_wp2
      go_ret
      exact ⟨ret_bool (by unfold sameB; rw [Ga.out, Gb.out]; first | rfl | simp), HB0.out⟩
  · have ga : (a == a') = false := by simpa using ha
    have ka : (a = a') = False := by simpa using ha
    have Ga := Lib.hid (show decide (a = a') = false by simpa using ha)
    go_enter Try.func19, Try.ntmps19
    go_wp2
    go_ret
    exact ⟨ret_bool (by unfold sameB; rw [Ga.out]; first | rfl | simp), HB0.out⟩
end Go.Proofs.Ytebeaekiaikgmaa
