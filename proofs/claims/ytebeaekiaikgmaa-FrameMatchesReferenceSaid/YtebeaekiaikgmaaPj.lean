/- Frames: what the program and the reference answer alike, function by function. -/
import Derived.Test.YtebeaekiaikgmaaPi
namespace Go.Proofs.Ytebeaekiaikgmaa
open Go.RowKit

theorem seal_both (key a b c d : Int) (sl : Value) (l : List Int) (t : Int) : ∃ A B C D er T : Int, ∃ L : List Int,
    (∀ w, IntsAt w sl l → Calls Try.prog 11 #[.int .i64 key, .agg #[.int .i64 a, .int .i64 b, .int .i64 c, .int .i64 d, sl, .int .i64 t]] w (DcP w A B C D L T er)) ∧
    (∀ w, IntsAt w sl l → Calls Try.prog 12 #[.int .i64 key, .agg #[.int .i64 a, .int .i64 b, .int .i64 c, .int .i64 d, sl, .int .i64 t]] w (DcP w A B C D L T er)) := by
  cases hk : tgB key
  · exact ⟨0, 0, 0, 0, 1, 0, [], fun w h => seal_no1 key a b c d sl l t w h hk, fun w h => rseal_no1 key a b c d sl l t w h hk⟩
  · cases hv : vaB a b c d l 0
    · exact ⟨0, 0, 0, 0, 1, 0, [], fun w h => seal_no2 key a b c d sl l t w h hk hv, fun w h => rseal_no2 key a b c d sl l t w h hk hv⟩
    · exact ⟨a, b, c, d, 0, tgF key a b c d l, l, fun w h => seal_ok key a b c d sl l t w h hk hv, fun w h => rseal_ok key a b c d sl l t w h hk hv⟩
theorem open_both (key a b c d : Int) (sl : Value) (l : List Int) (t : Int) : ∃ er : Int,
    (∀ w, IntsAt w sl l → Calls Try.prog 20 #[.int .i64 key, .agg #[.int .i64 a, .int .i64 b, .int .i64 c, .int .i64 d, sl, .int .i64 t]] w fun e w' => e = .returned (.int .i64 er) ∧ Below w.heap.size w w') ∧
    (∀ w, IntsAt w sl l → Calls Try.prog 21 #[.int .i64 key, .agg #[.int .i64 a, .int .i64 b, .int .i64 c, .int .i64 d, sl, .int .i64 t]] w fun e w' => e = .returned (.int .i64 er) ∧ Below w.heap.size w w') := by
  cases hk : tgB key
  · exact ⟨1, fun w h => open_no1 key a b c d sl l t w h hk, fun w h => ropen_no1 key a b c d sl l t w h hk⟩
  · cases hv : vaB a b c d l t
    · exact ⟨1, fun w h => open_no2 key a b c d sl l t w h hk hv, fun w h => ropen_no2 key a b c d sl l t w h hk hv⟩
    · by_cases hq : t = tgF key a b c d l
      · exact ⟨0, fun w h => open_yes key a b c d sl l t w h hk hv hq, fun w h => ropen_yes key a b c d sl l t w h hk hv hq⟩
      · exact ⟨15, fun w h => open_tag key a b c d sl l t w h hk hv hq, fun w h => ropen_tag key a b c d sl l t w h hk hv hq⟩
theorem decode_both (v : Value) (l : List Int) (hb : IsBy l) (h9 : l.length ≤ 2000) : ∃ A B C D er T : Int, ∃ L : List Int,
    (∀ w, BysAt w v l → Calls Try.prog 13 #[v] w (DcP w A B C D L T er)) ∧
    (∀ w, BysAt w v l → Calls Try.prog 14 #[v] w (DcP w A B C D L T er)) := by
  cases hx : badL l
  · have hg := by_get hb 16
    unfold badL at hx
    rw [Bool.or_eq_false_iff, Bool.not_eq_false', decide_eq_true_iff] at hx
    obtain ⟨n, hn⟩ := Int.eq_ofNat_of_zero_le hg.1
    have hl : l.length = 23 + 4 * n := by have := hx.2; rw [hn] at this; omega
    by_cases he : decE l n = l
    · refine ⟨num4 l 0, num4 l 4, num4 l 8, num4 l 12, 0, num4 l (17 + 4 * n), bodyL l n, fun w h => ?_, fun w h => ?_⟩
      · exact (decode_main v l w h hb h9 n hn hl).mono fun e w' q => by unfold DcQ at q; rw [if_pos he] at q; exact q
      · exact (rdecode_main v l w h hb h9 n hn hl).mono fun e w' q => by unfold DcQ at q; rw [if_pos he] at q; exact q
    · refine ⟨0, 0, 0, 0, 24, 0, [], fun w h => ?_, fun w h => ?_⟩
      · exact (decode_main v l w h hb h9 n hn hl).mono fun e w' q => by unfold DcQ at q; rw [if_neg he] at q; exact q
      · exact (rdecode_main v l w h hb h9 n hn hl).mono fun e w' q => by unfold DcQ at q; rw [if_neg he] at q; exact q
  · exact ⟨0, 0, 0, 0, 24, 0, [], fun w h => decode_bad v l w h hb h9 hx, fun w h => rdecode_bad v l w h hb h9 hx⟩
theorem accept_both (t : Int) (a : Option Addr) (n c : Nat) (L : List Bool) (s : Int) (hn : L.length = n) (hc : n ≤ c) (h9 : n ≤ 100000) : ∃ (T er : Int) (M : List Bool),
    (∀ w, BosAt w (.slice a n c) L → Calls Try.prog 15 #[.agg #[.int .i64 t, .slice a n c], .int .i64 s] w (AcP w T M er)) ∧
    (∀ w, BosAt w (.slice a n c) L → Calls Try.prog 16 #[.agg #[.int .i64 t, .slice a n c], .int .i64 s] w (AcP w T M er)) := by
  by_cases hw : WF t L
  · have h16 : n = 16 := by have := hw.1; omega
    subst h16
    exact ⟨_, _, _, fun w h => accept_wf t a c L s w h hw hc, fun w h => raccept_wf t a c L s w h hw hc⟩
  · exact ⟨t, 1, L, fun w h => accept_w0 t a n c L s w h hn h9 (wf_no a c hn hc hw), fun w h => raccept_no t a n c L s w h hn hc hw⟩
end Go.Proofs.Ytebeaekiaikgmaa
