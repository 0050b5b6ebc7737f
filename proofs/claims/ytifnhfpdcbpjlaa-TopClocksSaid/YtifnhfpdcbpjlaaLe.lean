/- Leases: 'Propose'. -/
import Derived.Test.YtifnhfpdcbpjlaaLd
namespace Go.Proofs.Ytifnhfpdcbpjlaa
open Go.RowKit

/-- The greatest Fence: of the first one and the first k. -/
def gN (l : List Vo) : Nat → Int
  | 0 => (l.getD 0 zV).f
  | k + 1 => mxi (gN l k) (l.getD k zV).f
def argB (n m hub now len : Int) : Bool := inr n 2 3 && (m == n) && inr hub 0 (n - 1) && tmB now && inr len 1 1000000
/-- The ways of 'Propose'. -/
inductive PW (L : List Vo) (A : List Bool) (hub now len : Int) : Int → Int → Int → Int → Prop
  | arg : argB L.length A.length hub now len = false → PW L A hub now len 0 0 0 1
  | few : argB L.length A.length hub now len = true → ¬ L.length < 2 * (yesN L A L.length).length → PW L A hub now len 0 0 0 22
  | lim : argB L.length A.length hub now len = true → L.length < 2 * (yesN L A L.length).length → 1000000000 ≤ gN (yesN L A L.length) (yesN L A L.length).length → PW L A hub now len 0 0 0 2
  | ok (F : Int) : argB L.length A.length hub now len = true → L.length < 2 * (yesN L A L.length).length → ¬ 1000000000 ≤ gN (yesN L A L.length) (yesN L A L.length).length → IntKind.i64.wrap (gN (yesN L A L.length) (yesN L A L.length).length + 1) = F → PW L A hub now len hub F (now + len) 0
theorem pw_total (L : List Vo) (A : List Bool) (hub now len : Int) : ∃ h f u er, PW L A hub now len h f u er := by
  cases h1 : argB L.length A.length hub now len
  · exact ⟨_, _, _, _, .arg h1⟩
  · by_cases h2 : L.length < 2 * (yesN L A L.length).length
    · by_cases h3 : 1000000000 ≤ gN (yesN L A L.length) (yesN L A L.length).length
      · exact ⟨_, _, _, _, .lim h1 h2 h3⟩
      · exact ⟨_, _, _, _, .ok _ h1 h2 h3 rfl⟩
    · exact ⟨_, _, _, _, .few h1 h2⟩
/-- How the arguments are wrong. -/
theorem arg_cases {n m hub now len : Int} (h : argB n m hub now len = false) :
    inr n 2 3 = false ∨ (inr n 2 3 = true ∧ m ≠ n) ∨ (inr n 2 3 = true ∧ m = n ∧ inr hub 0 (n - 1) = false) ∨ (inr n 2 3 = true ∧ m = n ∧ inr hub 0 (n - 1) = true ∧ tmB now = false) ∨ (inr n 2 3 = true ∧ m = n ∧ inr hub 0 (n - 1) = true ∧ tmB now = true ∧ inr len 1 1000000 = false) := by
  unfold argB at h
  cases h0 : inr n 2 3
  · exact .inl rfl
  · by_cases h1 : m = n
    · cases h2 : inr hub 0 (n - 1)
      · exact .inr (.inr (.inl ⟨rfl, h1, rfl⟩))
      · cases h3 : tmB now
        · exact .inr (.inr (.inr (.inl ⟨rfl, h1, rfl, rfl⟩)))
        · refine .inr (.inr (.inr (.inr ⟨rfl, h1, rfl, rfl, ?_⟩)))
          rw [h0, h2, h3] at h
          simpa [h1] using h
    · exact .inr (.inl ⟨rfl, h1⟩)
theorem arg_all {n m hub now len : Int} (h : argB n m hub now len = true) : inr n 2 3 = true ∧ m = n ∧ inr hub 0 (n - 1) = true ∧ tmB now = true ∧ inr len 1 1000000 = true := by
  unfold argB at h
  simp only [Bool.and_eq_true, beq_iff_eq] at h
  exact ⟨h.1.1.1.1, h.1.1.1.2, h.1.1.2, h.1.2, h.2⟩
def LPost (h f u er : Int) (w : World) (e : Ending) (w' : World) : Prop := e = .returned (.tuple #[.agg #[.int .i64 h, .int .i64 f, .int .i64 u], .int .i64 er]) ∧ Below w.heap.size w w'
theorem LPost.mk {h f u er : Int} {w w' : World} (hb : Below w.heap.size w w') : LPost h f u er w (.returned (.tuple #[.agg #[.int .i64 h, .int .i64 f, .int .i64 u], .int .i64 er])) w' := ⟨rfl, hb⟩
theorem isTime_q (n : Int) (b : Bool) (hb : tmB n = b) (w : World) : Calls Try.prog 11 #[.int .i64 n] w fun e w' => e = .returned (.bool b) ∧ w = w' := by
  rw [← hb]; exact isTime_any n w
set_option maxRecDepth 100000 in
set_option maxHeartbeats 4000000 in
theorem propose_arg (v va : Value) (L : List Vo) (A : List Bool) (hub now len : Int) (w : World) (hl : VosAt w v L) (ha : BosAt w va A) (h : argB L.length A.length hub now len = false) :
    Calls Try.prog 14 #[v, va, .int .i64 hub, .int .i64 now, .int .i64 len] w (LPost 0 0 0 1 w) := by
  obtain ⟨a, cap, rfl, hm, -⟩ := hl
  obtain ⟨aa, capa, rfl, hma, -⟩ := ha
  unfold maxLen at hm hma
  rcases arg_cases h with h0 | ⟨h0, h1⟩ | ⟨h0, h1, h2⟩ | ⟨h0, h1, h2, h3⟩ | ⟨h0, h1, h2, h3, h4⟩ <;> clear h
  · have H0 := Lib.hid h0
    clear h0
    go_enter Try.func14, Try.ntmps14
    go_wp2_with fail
    refine (within_q _ 2 3 _ H0.out _).mono ?_
    rintro e w' ⟨rfl, rfl⟩
    go_wp2
    exact bodyPost_ret (v := .tuple #[.agg #[.int .i64 0, .int .i64 0, .int .i64 0], .int .i64 1]) (by simp [results, Try.results14, go_sem]) rfl (LPost.mk (by repeat (first | with_reducible exact Below.refl _ _ | with_reducible exact Below.refl _ _ | ((with_reducible refine Below.setCell ?_ ?_ _); rotate_left; focus (first | (simp; done) | (simp; omega) | omega)) | ((with_reducible refine Below.alloc ?_ ?_ _); rotate_left; focus (first | (simp; done) | (simp; omega) | omega)) | with_reducible refine Below.trans ?_ (below_drewN' _ _ _) | with_reducible refine Below.trans ?_ (below_drew _ _))))
  · have H0 := Lib.hid h0
    clear h0
    have q1 : (A.length != L.length) = true := by simpa using (fun e => h1 (by rw [e]))
    have q2 : ((A.length : Int) != (L.length : Int)) = true := by simpa using h1
    clear h1
    go_enter Try.func14, Try.ntmps14
    go_wp2_with fail
    refine (within_q _ 2 3 _ H0.out _).mono ?_
    rintro e w' ⟨rfl, rfl⟩
    go_wp2
    exact bodyPost_ret (v := .tuple #[.agg #[.int .i64 0, .int .i64 0, .int .i64 0], .int .i64 1]) (by simp [results, Try.results14, go_sem]) rfl (LPost.mk (by repeat (first | with_reducible exact Below.refl _ _ | with_reducible exact Below.refl _ _ | ((with_reducible refine Below.setCell ?_ ?_ _); rotate_left; focus (first | (simp; done) | (simp; omega) | omega)) | ((with_reducible refine Below.alloc ?_ ?_ _); rotate_left; focus (first | (simp; done) | (simp; omega) | omega)) | with_reducible refine Below.trans ?_ (below_drewN' _ _ _) | with_reducible refine Below.trans ?_ (below_drew _ _))))
  · have H0 := Lib.hid h0
    clear h0
    have H2 := Lib.hid h2
    clear h2
    have h1' : A.length = L.length := by omega
    rw [h1']
    clear h1 h1'
    go_enter Try.func14, Try.ntmps14
    go_wp2_with fail
    refine (within_q _ 2 3 _ H0.out _).mono ?_
    rintro e w' ⟨rfl, rfl⟩
    go_wp2_with fail
    refine (within_q hub 0 _ _ H2.out _).mono ?_
    rintro e w' ⟨rfl, rfl⟩
    go_wp2
    exact bodyPost_ret (v := .tuple #[.agg #[.int .i64 0, .int .i64 0, .int .i64 0], .int .i64 1]) (by simp [results, Try.results14, go_sem]) rfl (LPost.mk (by repeat (first | with_reducible exact Below.refl _ _ | with_reducible exact Below.refl _ _ | ((with_reducible refine Below.setCell ?_ ?_ _); rotate_left; focus (first | (simp; done) | (simp; omega) | omega)) | ((with_reducible refine Below.alloc ?_ ?_ _); rotate_left; focus (first | (simp; done) | (simp; omega) | omega)) | with_reducible refine Below.trans ?_ (below_drewN' _ _ _) | with_reducible refine Below.trans ?_ (below_drew _ _))))
  · have H0 := Lib.hid h0
    clear h0
    have H2 := Lib.hid h2
    clear h2
    have H3 := Lib.hid h3
    clear h3
    have h1' : A.length = L.length := by omega
    rw [h1']
    clear h1 h1'
    go_enter Try.func14, Try.ntmps14
    go_wp2_with fail
    refine (within_q _ 2 3 _ H0.out _).mono ?_
    rintro e w' ⟨rfl, rfl⟩
    go_wp2_with fail
    refine (within_q hub 0 _ _ H2.out _).mono ?_
    rintro e w' ⟨rfl, rfl⟩
    go_wp2_with fail
    refine (isTime_q now _ H3.out _).mono ?_
    rintro e w' ⟨rfl, rfl⟩
    go_wp2
    exact bodyPost_ret (v := .tuple #[.agg #[.int .i64 0, .int .i64 0, .int .i64 0], .int .i64 1]) (by simp [results, Try.results14, go_sem]) rfl (LPost.mk (by repeat (first | with_reducible exact Below.refl _ _ | with_reducible exact Below.refl _ _ | ((with_reducible refine Below.setCell ?_ ?_ _); rotate_left; focus (first | (simp; done) | (simp; omega) | omega)) | ((with_reducible refine Below.alloc ?_ ?_ _); rotate_left; focus (first | (simp; done) | (simp; omega) | omega)) | with_reducible refine Below.trans ?_ (below_drewN' _ _ _) | with_reducible refine Below.trans ?_ (below_drew _ _))))
  · have H0 := Lib.hid h0
    clear h0
    have H2 := Lib.hid h2
    clear h2
    have H3 := Lib.hid h3
    clear h3
    have H4 := Lib.hid h4
    clear h4
    have h1' : A.length = L.length := by omega
    rw [h1']
    clear h1 h1'
    go_enter Try.func14, Try.ntmps14
    go_wp2_with fail
    refine (within_q _ 2 3 _ H0.out _).mono ?_
    rintro e w' ⟨rfl, rfl⟩
    go_wp2_with fail
    refine (within_q hub 0 _ _ H2.out _).mono ?_
    rintro e w' ⟨rfl, rfl⟩
    go_wp2_with fail
    refine (isTime_q now _ H3.out _).mono ?_
    rintro e w' ⟨rfl, rfl⟩
    go_wp2_with fail
    refine (within_q len 1 1000000 _ H4.out _).mono ?_
    rintro e w' ⟨rfl, rfl⟩
    go_wp2
    exact bodyPost_ret (v := .tuple #[.agg #[.int .i64 0, .int .i64 0, .int .i64 0], .int .i64 1]) (by simp [results, Try.results14, go_sem]) rfl (LPost.mk (by repeat (first | with_reducible exact Below.refl _ _ | with_reducible exact Below.refl _ _ | ((with_reducible refine Below.setCell ?_ ?_ _); rotate_left; focus (first | (simp; done) | (simp; omega) | omega)) | ((with_reducible refine Below.alloc ?_ ?_ _); rotate_left; focus (first | (simp; done) | (simp; omega) | omega)) | with_reducible refine Below.trans ?_ (below_drewN' _ _ _) | with_reducible refine Below.trans ?_ (below_drew _ _))))
end Go.Proofs.Ytifnhfpdcbpjlaa
