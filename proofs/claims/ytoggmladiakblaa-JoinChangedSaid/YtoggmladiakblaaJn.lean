/- Plain facts for the laws; how arguments open. -/
import Derived.Test.YtoggmladiakblaaJm
import Derived.ChangeSame
import Derived.Deep.Strs
import Derived.RowKit
namespace Go.Proofs.Ytoggmladiakblaa
open Go.RowKit Go.WideShapes Go.ChangeShapes Go.Joins Go.Deep

/-- No number from 'lo' on, 2 ^ k of them, divides. -/
def chk : Nat → Nat → Bool
  | 0, lo => !(2147483647 % lo == 0)
  | k + 1, lo => chk k lo && chk k (lo + 2 ^ k)
theorem chk_at : ∀ (k lo : Nat), chk k lo = true → ∀ n, lo ≤ n → n < lo + 2 ^ k → 2147483647 % n ≠ 0
  | 0, lo, h, n, h1, h2 => by
    obtain rfl : n = lo := by simp at h2; omega
    simpa [chk] using h
  | k + 1, lo, h, n, h1, h2 => by
    simp only [chk, Bool.and_eq_true] at h
    rw [Nat.pow_succ] at h2
    by_cases hn : n < lo + 2 ^ k
    · exact chk_at k lo h.1 n h1 hn
    · exact chk_at k _ h.2 n (by omega) (by omega)
theorem small_no (n : Nat) (h1 : 2 ≤ n) (h2 : n < 65538) : 2147483647 % n ≠ 0 := chk_at 16 2 (by decide +kernel) n h1 (by omega)
theorem no_parts (g q : Nat) (h : 2147483647 = g * q) (h1 : g ≠ 1) : g = 2147483647 := by
  have hq : q ≠ 0 := by rintro rfl; simp at h
  have hg : g ≠ 0 := by rintro rfl; simp at h
  by_cases hs : g < 65538
  · exact absurd (by rw [h]; exact Nat.mul_mod_right g q) (small_no g (by omega) hs)
  · by_cases h2 : q = 1
    · subst h2; omega
    · have hlt : q < 65538 := by
        apply Classical.byContradiction
        intro hc
        have : 65538 * 65538 ≤ g * q := Nat.mul_le_mul (by omega) (by omega)
        omega
      exact absurd (by rw [h]; exact Nat.mul_mod_left g q) (small_no q (by omega) hlt)
theorem cop (y : Nat) (h1 : 1 ≤ y) (h2 : y < 2147483647) : Nat.Coprime y 2147483647 := by
  apply Classical.byContradiction
  intro hc
  obtain ⟨q, hq⟩ := Nat.gcd_dvd_right y 2147483647
  have := no_parts (Nat.gcd y 2147483647) q hq hc
  have hd := Nat.le_of_dvd (by omega) (Nat.gcd_dvd_left y 2147483647)
  omega
theorem pw_acc (y s : Int) (h : accB y = true) : pw y s ≠ 0 := by
  unfold accB at h
  rw [decide_eq_true_iff] at h
  obtain ⟨n, rfl⟩ := Int.eq_ofNat_of_zero_le (show 0 ≤ y by omega)
  have hc := (cop n (by omega) (by omega)).pow_left (ex s)
  unfold pw pwn
  intro h0
  have h1 : n ^ ex s % 2147483647 = 0 := by
    have : ((n ^ ex s % 2147483647 : Nat) : Int) = 0 := by rw [← h0]; simp
    omega
  have h2 := Nat.gcd_eq_right (Nat.dvd_of_mod_eq_zero h1)
  unfold Nat.Coprime at hc
  rw [h2] at hc
  omega

theorem rw_shape {c s m o k : Int} {h d : Bool} {x y z er : Int} {J H : Array Value} (hw : RW c s m o k h d x y z er J H) :
    ∃ (c' s' m' o' k' : Int) (h' d' : Bool) (x' y' z' : Int), J = jc c' s' m' o' k' h' d' ∧ H = hc3 x' y' z' := by
  cases hw <;> exact ⟨_, _, _, _, _, _, _, _, _, _, rfl, rfl⟩

theorem ownK : ownKnob Try.prog.godebug = none := by kernel_rfl
theorem laidO : laidOutB Try.prog = true := by kernel_rfl
theorem cells23 : Try.prog.cellsOf 23 = 7 := by kernel_rfl
theorem cells25 : Try.prog.cellsOf 25 = 3 := by kernel_rfl
theorem cellsI : Try.prog.cellsOf 3 = 1 := by kernel_rfl
theorem cellsB : Try.prog.cellsOf 4 = 1 := by kernel_rfl
section
variable {H : Type} {enc : TypeId × Value → H} {w : World} {base : Nat} {sp : Nat → Bool} {held : Bool} {r : Reach} {b0 : Nat} {v : Value} {d : DataW H} {p : List MemPlace}
theorem open_hello {n : Nat} {cs : List Value} {x : DataW H × List MemPlace} (h : DataW.trod enc Try.prog w base sp held n 25 cs = some x) : ∃ a b c : Int, cs = [.int .i64 a, .int .i64 b, .int .i64 c] := by
  obtain ⟨y0, y1, y2, m, _, hl, h0, h1, h2⟩ := trod_struct3 Try.underlying25 h
  rw [cells25] at hl
  match cs, hl with
  | [c0, c1, c2], _ =>
    simp only [cellsI, List.drop_zero, List.drop_succ_cons, List.take_succ_cons, List.take_zero] at h0 h1 h2
    obtain ⟨s0, e0, _⟩ := DataW.trod_int Try.underlying3 h0
    obtain ⟨s1, e1, _⟩ := DataW.trod_int Try.underlying3 h1
    obtain ⟨s2, e2, _⟩ := DataW.trod_int Try.underlying3 h2
    simp only [List.cons.injEq, and_true] at e0 e1 e2
    exact ⟨s0, s1, s2, by rw [e0, e1, e2]⟩
theorem trod_struct7 {P : Program} {t : TypeId} {f0 f1 f2 f3 f4 f5 f6 : Field} {fuel : Nat} {cs : List Value} {x : DataW H × List MemPlace} (ht : P.underlying t = some (.struct #[f0, f1, f2, f3, f4, f5, f6])) (h : DataW.trod enc P w base sp held fuel t cs = some x) :
    ∃ (n : Nat) (ys : Nat → DataW H × List MemPlace), cs.length = P.cellsOf t ∧
      DataW.trod enc P w base sp held n f0.type ((cs.drop f0.offset).take (P.cellsOf f0.type)) = some (ys 0) ∧
      DataW.trod enc P w base sp held n f1.type ((cs.drop f1.offset).take (P.cellsOf f1.type)) = some (ys 1) ∧
      DataW.trod enc P w base sp held n f2.type ((cs.drop f2.offset).take (P.cellsOf f2.type)) = some (ys 2) ∧
      DataW.trod enc P w base sp held n f3.type ((cs.drop f3.offset).take (P.cellsOf f3.type)) = some (ys 3) ∧
      DataW.trod enc P w base sp held n f4.type ((cs.drop f4.offset).take (P.cellsOf f4.type)) = some (ys 4) ∧
      DataW.trod enc P w base sp held n f5.type ((cs.drop f5.offset).take (P.cellsOf f5.type)) = some (ys 5) ∧
      DataW.trod enc P w base sp held n f6.type ((cs.drop f6.offset).take (P.cellsOf f6.type)) = some (ys 6) := by
  obtain ⟨xs, n, _, rfl, hl, hlen, hf⟩ := DataW.trod_struct ht h
  match xs, hlen with
  | [y0, y1, y2, y3, y4, y5, y6], _ =>
    refine ⟨n, fun i => match i with | 0 => y0 | 1 => y1 | 2 => y2 | 3 => y3 | 4 => y4 | 5 => y5 | _ => y6, hl, by simpa using hf 0 f0 rfl, by simpa using hf 1 f1 rfl, by simpa using hf 2 f2 rfl, by simpa using hf 3 f3 rfl, by simpa using hf 4 f4 rfl, by simpa using hf 5 f5 rfl, by simpa using hf 6 f6 rfl⟩
theorem open_joiner {n : Nat} {cs : List Value} {x : DataW H × List MemPlace} (h : DataW.trod enc Try.prog w base sp held n 23 cs = some x) :
    ∃ (a b c d e : Int) (f g : Bool), cs = [.int .i64 a, .int .i64 b, .int .i64 c, .int .i64 d, .int .i64 e, .bool f, .bool g] := by
  obtain ⟨m, ys, hl, h0, h1, h2, h3, h4, h5, h6⟩ := trod_struct7 Try.underlying23 h
  rw [cells23] at hl
  match cs, hl with
  | [c0, c1, c2, c3, c4, c5, c6], _ =>
    simp only [cellsI, cellsB, List.drop_zero, List.drop_succ_cons, List.take_succ_cons, List.take_zero] at h0 h1 h2 h3 h4 h5 h6
    obtain ⟨s0, e0, _⟩ := DataW.trod_int Try.underlying3 h0
    obtain ⟨s1, e1, _⟩ := DataW.trod_int Try.underlying3 h1
    obtain ⟨s2, e2, _⟩ := DataW.trod_int Try.underlying3 h2
    obtain ⟨s3, e3, _⟩ := DataW.trod_int Try.underlying3 h3
    obtain ⟨s4, e4, _⟩ := DataW.trod_int Try.underlying3 h4
    obtain ⟨s5, e5, _⟩ := DataW.trod_bool Try.underlying4 h5
    obtain ⟨s6, e6, _⟩ := DataW.trod_bool Try.underlying4 h6
    simp only [List.cons.injEq, and_true] at e0 e1 e2 e3 e4 e5 e6
    exact ⟨s0, s1, s2, s3, s4, s5, s6, by rw [e0, e1, e2, e3, e4, e5, e6]⟩
theorem arg_hello (hv : Value.okWide Try.prog w r b0 25 v) (h : DataW.Trod enc Try.prog w base sp held 25 v d p) : ∃ x y z : Int, v = .agg (hc3 x y z) := by
  obtain ⟨cs, rfl, hsz⟩ := okWide_struct Try.underlying25 hv
  obtain ⟨k, h⟩ := h
  obtain ⟨x, y, z, e⟩ := open_hello h
  refine ⟨x, y, z, ?_⟩
  congr 1
  exact Array.toList_inj.1 e
theorem arg_joiner (hv : Value.okWide Try.prog w r b0 23 v) (h : DataW.Trod enc Try.prog w base sp held 23 v d p) : ∃ (c s m o k : Int) (g e : Bool), v = .agg (jc c s m o k g e) := by
  obtain ⟨cs, rfl, hsz⟩ := okWide_struct Try.underlying23 hv
  obtain ⟨n, h⟩ := h
  obtain ⟨c, s, m, o, k, g, e, eq⟩ := open_joiner h
  refine ⟨c, s, m, o, k, g, e, ?_⟩
  congr 1
  exact Array.toList_inj.1 eq
theorem arg_int {t : TypeId} {k : IntKind} (ht : Try.prog.underlying t = some (.int k)) (hv : Value.okWide Try.prog w r b0 t v) (h : DataW.Trod enc Try.prog w base sp held t v d p) : ∃ x : Int, v = .int k x ∧ k.min ≤ x ∧ x ≤ k.max := by
  obtain ⟨x, rfl, -, -, hw⟩ := open_int ht hv h
  refine ⟨x, rfl, ?_⟩
  have : (decide (k.min ≤ x) && decide (x ≤ k.max)) = true := hw
  rw [Bool.and_eq_true, decide_eq_true_iff, decide_eq_true_iff] at this
  exact this
end
end Go.Proofs.Ytoggmladiakblaa
